"""Drafters and drafts: [15]."""

import itertools
import random
import unittest

from answersalone.answers import Answer
from answersalone.automata import Automaton, everything
from answersalone.drafters import Always, Echo, Foresight, drafts_of
from answersalone.nets import Net
from answersalone.plain import plain_answer
from answersalone.requests import Request

from samples import example_net, example_parts, some_net
from standin import RecordingNet, mixed_weights, odd_values


class AlwaysTest(unittest.TestCase):
    def test_it_tells_its_tokens(self):
        drafter = Always(2, 1)
        self.assertEqual(drafter.tokens, (2, 1))
        self.assertIsInstance(drafter.tokens, tuple)
        for text in [[1], (1, 2), [2] * 16, []]:
            self.assertEqual(drafter(text), [2, 1])
        self.assertEqual(drafter(text=[1]), [2, 1])

    def test_no_tokens(self):
        self.assertEqual((Always().tokens, Always()([1])), ((), []))

    def test_repr(self):
        self.assertEqual([repr(Always()), repr(Always(1)), repr(Always(2, 1, 9))],
                         ["Always(0 tokens)", "Always(1 tokens)", "Always(3 tokens)"])

    def test_the_list_is_new(self):
        drafter = Always(2, 1)
        self.assertIsInstance(drafter([1]), list)
        drafter([1]).clear()
        self.assertEqual((drafter([1]), drafter.tokens), ([2, 1], (2, 1)))


def echoed(text, most):
    """What [15] and the entry of Echo tell."""
    found = []
    for start in range(0, len(text) - 2):
        if text[start] == text[-2] and text[start + 1] == text[-1]:
            found = list(text[start + 2:])
    return found[:most]


class EchoTest(unittest.TestCase):
    def test_attributes_and_defaults(self):
        self.assertEqual((Echo().most, Echo(0).most, Echo(most=16).most), (5, 0, 16))

    def test_where_they_stood_last(self):
        self.assertEqual(Echo()([1, 2, 3, 1, 2, 4, 5, 1, 2]), [4, 5, 1, 2])
        self.assertEqual(Echo(3)([1, 2, 3, 1, 2, 4, 5, 1, 2]), [4, 5, 1])
        self.assertEqual(Echo(1)([1, 2, 3, 1, 2]), [3])
        self.assertEqual(Echo(0)([1, 2, 3, 1, 2]), [])

    def test_the_earlier_ones_may_overlap_them(self):
        self.assertEqual(Echo()([1, 1, 1]), [1])
        self.assertEqual(Echo()([2, 1, 1, 1]), [1])
        self.assertEqual(Echo()([1, 2, 1, 2]), [1, 2])
        self.assertEqual(Echo()([1, 2, 1, 2, 1]), [2, 1])

    def test_they_are_not_found_at_their_own_place(self):
        self.assertEqual(Echo()([3, 1, 2]), [])
        self.assertEqual(Echo()([1, 1]), [])
        self.assertEqual(Echo()([2, 1, 1]), [])

    def test_texts_that_are_too_short(self):
        for text in [[], [1], [1, 2], [1, 1], (1, 1)]:
            self.assertEqual(Echo()(text), [])

    def test_all_short_texts(self):
        for length in range(9):
            for text in itertools.product((1, 2), repeat=length):
                for most in (0, 1, 2, 5, 16):
                    self.assertEqual(Echo(most)(list(text)), echoed(text, most))
                    self.assertEqual(Echo(most)(text), echoed(text, most))

    def test_ends_are_tokens_as_others(self):
        self.assertEqual(Echo()([0, 1, 0, 2, 0, 1]), [0, 2, 0, 1])

    def test_the_list_is_new_and_the_text_stays(self):
        text = [1, 2, 1, 2]
        told = Echo()(text)
        self.assertIsInstance(Echo()((1, 2, 1, 2)), list)
        told.clear()
        self.assertEqual((text, Echo()(text)), ([1, 2, 1, 2], [1, 2]))


class ForesightTest(unittest.TestCase):
    def test_attributes_and_defaults(self):
        net = example_net()
        self.assertEqual((Foresight(net).net, Foresight(net).most), (net, 5))
        self.assertEqual(Foresight(most=3, net=net).most, 3)

    def test_the_example(self):
        net = example_net()
        self.assertEqual(Foresight(net)([1, 2]), [2, 1, 1, 1, 1])
        self.assertEqual(Foresight(net, 6)((1, 1, 2)), [1] * 6)
        self.assertEqual(Foresight(net, 2)([1, 2]), [2, 1])
        self.assertEqual(Foresight(net, 1)([1, 2]), [2])

    def test_at_most_none(self):
        self.assertEqual(Foresight(example_net(), 0)([1, 2]), [])

    def test_up_to_the_first_end(self):
        for ends in range(1, 6):
            net = RecordingNet(".ab", lambda text: [9 if len(text) == ends else 0, 1, 2])
            self.assertEqual(Foresight(net)([1]), [2] * (ends - 1))
        net = RecordingNet(".ab", lambda text: [0, 0, 0])
        self.assertEqual(Foresight(net)([1]), [])

    def test_as_the_plain_answers(self):
        draw = random.Random(2)
        lengths = set()
        for _ in range(30):
            net = some_net(draw, greatest=2)
            text = [draw.randrange(1, len(net.tokens)) for _ in range(draw.randint(1, 6))]
            for most in (1, 3, 16):
                expected = list(plain_answer(net, Request("x", text, most)).tokens)
                self.assertEqual(Foresight(net, most)(text), expected)
                lengths.add(len(expected))
        self.assertGreater(len(lengths), 3)

    def test_from_nothing_each_time(self):
        drafter = Foresight(RecordingNet(".ab", mixed_weights))
        for text in ([1, 2], [2, 2, 1], [1, 2]):
            self.assertEqual(drafter(text), Foresight(RecordingNet(".ab", mixed_weights))(text))

    def test_what_it_asks_of_a_net(self):
        net = RecordingNet(".ab", lambda text: [0, 1, 0])
        Foresight(net, 2)([2])
        self.assertEqual(net.places[:2], [([], 2), ([(2, 0)], 1)])

    def test_the_list_is_new_and_the_text_stays(self):
        text = [1, 2]
        drafter = Foresight(example_net())
        drafter(text).clear()
        self.assertEqual((text, drafter(text)), ([1, 2], [2, 1, 1, 1, 1]))

    def test_an_end_at_once(self):
        net = Net(**{**example_parts(), "base": [9, 0, 0]})
        self.assertEqual(Foresight(net)([1, 2]), [])


class DraftsTest(unittest.TestCase):
    def test_lists_and_tuples(self):
        self.assertEqual(drafts_of([1, 2, 1], 3, 5), [1, 2, 1])
        self.assertEqual(drafts_of((1, 2, 1), 3, 5), [1, 2, 1])
        self.assertEqual(drafts_of(most=2, tokens=3, result=[1, 2, 1]), [1, 2])
        self.assertEqual(drafts_of([], 3, 5), [])
        self.assertEqual(drafts_of([1, 2], 3, 0), [])

    def test_up_to_the_first_wrong_item(self):
        wrong = [0, 3, -1, 10 ** 9, "1", "", "b"] + odd_values()
        for item in wrong:
            self.assertEqual(drafts_of([1, 2, item, 1], 3, 5), [1, 2])
            self.assertEqual(drafts_of([item, 1], 3, 5), [])
            self.assertEqual(drafts_of((1, item), 3, 5), [1])
            self.assertEqual(drafts_of([1, 2, item], 3, 2), [1, 2])

    def test_the_tokens_of_the_net(self):
        for tokens in range(2, 7):
            self.assertEqual(drafts_of([5, 1], tokens, 5), [5, 1] if tokens == 6 else [])
            self.assertEqual(drafts_of(list(range(1, 7)), tokens, 9), list(range(1, tokens)))

    def test_other_values(self):
        for value in [None, True, False, 0, 1, 7, "", "12", "ab", example_net(), Answer([1, 2]), everything(3),
                      Automaton([[0]], [0]), Request("x", [1, 2], 3), Always(1), drafts_of]:
            self.assertEqual(drafts_of(value, 3, 5), [])

    def test_the_list_is_new(self):
        result = [1, 2]
        told = drafts_of(result, 3, 5)
        told.append(9)
        self.assertEqual(result, [1, 2])
        self.assertIsInstance(drafts_of((1,), 3, 5), list)


if __name__ == "__main__":
    unittest.main()
