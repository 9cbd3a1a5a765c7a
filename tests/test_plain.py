"""Runs and plain answers: [12], and what worked tells of [6]."""

import itertools
import unittest

from answersalone.answers import Answer
from answersalone.automata import Automaton, everything
from answersalone.choosing import choose
from answersalone.errors import InvalidRequest, UnknownRun
from answersalone.plain import next_token, plain_answer, plain_tokens, worked
from answersalone.requests import Request

from samples import example_net
from standin import RecordingNet, mixed_weights, odd_values

AUTOMATA = [None, everything(3), Automaton.read("1-/01+"), Automaton.read("12/-2/0-+"), Automaton.read("1-/2-/-3/--+")]


def answered(weigh, request, run):
    """The plain answer that [12] tells, straight by its words."""
    answer = []
    while True:
        text = request.text + tuple(answer)
        allowed = None
        if request.automaton is not None:
            state = request.automaton.state_of(answer)
            allowed = request.automaton.allowed(state, request.most - len(answer))
        token = choose(weigh(text), allowed=allowed, knob=request.knob, seed=request.seed + run, place=len(text))
        if token == 0:
            return Answer(answer, "end")
        answer.append(token)
        if len(answer) == request.most:
            return Answer(answer, "full")


def some_requests():
    for text, most, knob, automaton in itertools.product([[1], [2, 1, 1]], [1, 3, 5, 16], ["best", "draw"], AUTOMATA):
        request = Request("a", text, most, knob=knob, seed=41, copies=4, automaton=automaton)
        if request.possible:
            yield request


class WorkedTest(unittest.TestCase):
    def test_the_document(self):
        pairs = worked(example_net(), [1, 2, 2])
        self.assertEqual(pairs, [
            (((((0, 0), (0, -1)),),), (0, -2)),
            (((((0, 0), (0, 1)),),), (0, 2)),
            (((((0, 0), (0, 0)),),), (0, 0)),
        ])

    def test_each_place_gets_the_rows_ahead_of_it(self):
        net = RecordingNet(".ab", mixed_weights)
        pairs = worked(net, (2, 1, 1, 2))
        rows = [(2, 0), (1, 1), (1, 2), (2, 3)]
        self.assertEqual(pairs, [((2, 0), (2,)), ((1, 1), (2, 1)), ((1, 2), (2, 1, 1)), ((2, 3), (2, 1, 1, 2))])
        self.assertEqual(net.places, [([], 2), (rows[:1], 1), (rows[:2], 1), (rows[:3], 2)])

    def test_the_text_stays_and_the_list_is_new(self):
        net = RecordingNet(".ab", mixed_weights)
        text = [1, 2]
        first = worked(net=net, text=text)
        first.clear()
        self.assertEqual((text, len(worked(net, text))), ([1, 2], 2))

    def test_with_ends_in_the_text(self):
        self.assertEqual(worked(RecordingNet(".ab", mixed_weights), [0, 1])[1], ((1, 1), (0, 1)))


class NextTokenTest(unittest.TestCase):
    def test_the_example(self):
        request = Request("x", [1, 2], 6)
        self.assertEqual(next_token(example_net(), request, []), 2)
        self.assertEqual(next_token(example_net(), request, [2]), 1)
        self.assertEqual(next_token(example_net(), request, (2, 1, 1)), 1)

    def test_it_works_all_places_from_nothing(self):
        net = RecordingNet(".ab", mixed_weights)
        next_token(net, Request("x", [1, 2], 6), [2, 2])
        self.assertEqual([token for _, token in net.places], [1, 2, 2, 2])
        self.assertEqual(net.places[0][0], [])

    def test_by_the_rule(self):
        net = RecordingNet(".ab", mixed_weights)
        for request in some_requests():
            for run in range(4):
                answer = answered(mixed_weights, request, run)
                for many in range(len(answer)):
                    token = next_token(net, request, list(answer.tokens[:many]), run)
                    self.assertEqual(token, answer.tokens[many])
                if answer.why == "end":
                    self.assertEqual(next_token(net, request, answer.tokens, run=run), 0)

    def test_the_place_is_the_length_of_the_whole_text(self):
        request = Request("x", [1, 1], 6, knob="draw", seed=1, copies=2)
        net = RecordingNet(".ab", lambda text: [0, 1, 1])
        for run, tokens in itertools.product((0, 1), ([], [1], [2, 2])):
            number = ((1 + run) * 40503 + (2 + len(tokens)) * 30011 + 12345) % 65521
            self.assertEqual(next_token(net, request, tokens, run), 1 + number % 2)

    def test_the_tokens_still_free(self):
        # Two tokens lead from the state 0 to the closing one; token 2 stays in the state 0.
        automaton = Automaton.read("10/2-/--+")
        net = RecordingNet(".ab", lambda text: [0, 0, 9])
        request = Request("x", [1], 4, automaton=automaton)
        self.assertEqual([next_token(net, request, tokens) for tokens in ([], [2], [2, 2], [2, 2, 1])], [2, 2, 1, 1])

    def test_the_tokens_stay(self):
        tokens = [2]
        next_token(example_net(), Request("x", [1, 2], 6), tokens)
        self.assertEqual(tokens, [2])


class PlainAnswerTest(unittest.TestCase):
    def test_the_example(self):
        self.assertEqual(plain_answer(example_net(), Request("x", [1, 2], 6)), Answer([2, 1, 1, 1, 1, 1], "full"))
        self.assertEqual(plain_answer(example_net(), Request("y", [1, 1, 2], 6)), Answer([1] * 6, "full"))

    def test_by_the_rule(self):
        net = RecordingNet(".ab", mixed_weights)
        reasons = []
        for request in some_requests():
            for run in range(4):
                expected = answered(mixed_weights, request, run)
                answer = plain_answer(net, request, run)
                self.assertIsInstance(answer, Answer)
                self.assertEqual(answer, expected)
                self.assertEqual(list(plain_tokens(net, request, run)), list(expected.tokens))
                if request.automaton is not None:
                    self.assertTrue(request.automaton.accepts(answer.tokens))
                reasons.append((request.automaton is None, answer.why))
        self.assertEqual(set(reasons), set(itertools.product([True, False], ["end", "full"])))

    def test_runs_differ_by_their_seeds(self):
        net = RecordingNet(".ab", lambda text: [0, 5, 4])
        request = Request("x", [1], 8, knob="draw", seed=3, copies=4)
        answers = [plain_answer(net, request, run) for run in range(4)]
        for run in range(4):
            alone = request.changed(seed=3 + run, copies=1)
            self.assertEqual(plain_answer(net, alone), answers[run])
        self.assertGreater(len({answer.tokens for answer in answers}), 1)

    def test_end_at_once(self):
        net = RecordingNet(".ab", lambda text: [1, 0, 0])
        self.assertEqual(plain_answer(net, Request("x", [1], 1)), Answer([], "end"))
        self.assertEqual(list(plain_tokens(net, Request("x", [1], 1))), [])

    def test_end_with_one_token_still_free(self):
        net = RecordingNet(".ab", lambda text: [len(text) - 1, 1, 0])
        self.assertEqual(plain_answer(net, Request("x", [1], 2)), Answer([1], "end"))
        self.assertEqual(plain_answer(net, Request("x", [1], 1)), Answer([1], "full"))

    def test_full_stands_ahead_of_the_end(self):
        # Behind the last token the end would be chosen; nothing is chosen any more.
        net = RecordingNet(".ab", lambda text: [9 if len(text) == 3 else 0, 1, 0])
        self.assertEqual(plain_answer(net, Request("x", [1], 2)), Answer([1, 1], "full"))
        self.assertEqual(plain_answer(net, Request("x", [1], 3)), Answer([1, 1], "end"))

    def test_all_weights_0(self):
        net = RecordingNet(".ab", lambda text: [0, 0, 0])
        self.assertEqual(plain_answer(net, Request("x", [1], 3)), Answer([], "end"))
        automaton = Automaton.read("-1/1-+")
        self.assertEqual(plain_answer(net, Request("x", [1], 3, automaton=automaton)), Answer([2], "end"))

    def test_by_name_and_defaults(self):
        net = example_net()
        request = Request("x", [1, 2], 2)
        self.assertEqual(plain_answer(run=0, request=request, net=net), plain_answer(net, request))
        self.assertEqual(list(plain_tokens(request=request, net=net, run=0)), [2, 1])
        self.assertEqual(next_token(tokens=[], request=request, net=net, run=0), 2)

    def test_tokens_one_by_one(self):
        net = RecordingNet(".ab", lambda text: [0, 1, 0])
        listing = plain_tokens(net, Request("x", [1], 5))
        self.assertEqual(net.places, [])
        self.assertEqual(next(listing), 1)
        self.assertEqual(len(net.places), 1)
        other = plain_tokens(net, Request("x", [1], 2))
        self.assertEqual((list(other), list(listing)), ([1, 1], [1, 1, 1, 1]))


def calls(net, request, *run):
    """The three calls that refuse, each until its first item."""
    return [
        lambda: next_token(net, request, [], *run),
        lambda: plain_answer(net, request, *run),
        lambda: next(plain_tokens(net, request, *run)),
    ]


class ErrorsTest(unittest.TestCase):
    def refused(self, field, request, *run):
        for call in calls(example_net(), request, *run):
            with self.assertRaises(InvalidRequest) as caught:
                call()
            self.assertEqual(caught.exception.field, field)

    def test_the_text(self):
        self.refused("text", Request("x", [3], 6))
        self.refused("text", Request("x", [1, 5, 1], 6))

    def test_the_automaton(self):
        self.refused("automaton", Request("x", [1], 6, automaton=everything(2)))
        self.refused("automaton", Request("x", [1], 6, automaton=everything(4)))

    def test_not_possible(self):
        self.refused("most", Request("x", [1], 6, automaton=Automaton.read("00")))
        self.refused("most", Request("x", [1], 2, automaton=Automaton.read("1-/2-/3-/--+")))

    def test_unknown_runs(self):
        request = Request("x", [1], 6, copies=2)
        for run in [2, 4, -1, 10 ** 9, "0", ""] + odd_values():
            for call in calls(example_net(), request, run):
                with self.assertRaises(UnknownRun) as caught:
                    call()
                self.assertIs(caught.exception.run, run)

    def test_known_runs(self):
        for copies in range(1, 5):
            request = Request("x", [1], 2, copies=copies)
            for run in range(copies):
                self.assertEqual(len(plain_answer(example_net(), request, run)), 2)
            with self.assertRaises(UnknownRun):
                plain_answer(example_net(), request, copies)

    def test_the_order(self):
        impossible = Automaton.read("0")
        self.refused("text", Request("x", [3], 6, automaton=impossible), 7)
        self.refused("automaton", Request("x", [2], 6, automaton=impossible), 7)
        self.refused("most", Request("x", [2], 6, automaton=Automaton.read("00")), 7)

    def test_a_generator_raises_at_its_first_item(self):
        listing = plain_tokens(example_net(), Request("x", [3], 6), None)
        with self.assertRaises(InvalidRequest):
            next(listing)
        listing = plain_tokens(example_net(), Request("x", [1], 6), None)
        with self.assertRaises(UnknownRun):
            list(listing)


if __name__ == "__main__":
    unittest.main()
