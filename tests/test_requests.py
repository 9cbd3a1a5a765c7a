"""Requests, their need and their ask lines: [11], [13], and parts of [3], [20], [21]."""

import itertools
import unittest

from answersalone.automata import Automaton, everything
from answersalone.errors import InvalidRequest
from answersalone.requests import Request, read_request

from standin import odd_values

FIELDS = ["name", "text", "most", "knob", "seed", "copies", "automaton"]
RIGHT = {
    "name": ["a", "abcdefgh"],
    "text": [[1], (5, 1), [5] * 16],
    "most": [1, 16],
    "knob": ["best", "draw"],
    "seed": [0, 9999],
    "copies": [1, 4],
    "automaton": [None, everything(2), Automaton([[None]])],
}
WRONG = {
    "name": ["", "abcdefghi", "A", "a1", "a b", "a\n", 0, 7],
    "text": [[0], [6], [1, 0], [1] * 17, [-1], [1, True], [1, "1"], [1, None], [[1]], "", "1", "ab", 1, 0, [1] * 400],
    "most": [0, 17, -1, "1", "", 10 ** 9],
    "knob": ["", "Best", "best ", "greedy", "draw\n", 0, ["best"], ("best", "draw")],
    "seed": [-1, 10000, "0", 10 ** 9],
    "copies": [0, 5, -1, "1"],
    "automaton": ["*", "0+", "", 0, 1, [everything(2)], [[0]]],
}


def some_request():
    return Request("ab", [1, 2], 4, knob="draw", seed=17, copies=3, automaton=Automaton.read("1-/01+"))


def attributes(request):
    return [getattr(request, field) for field in FIELDS]


def made(fields):
    rest = {field: fields[field] for field in FIELDS[3:]}
    return Request(fields["name"], fields["text"], fields["most"], **rest)


def wrong_values(field):
    odd = [value for value in odd_values() if not (field == "automaton" and (value is None or isinstance(value, Automaton)))]
    if field == "text":
        odd = [value for value in odd if value != [1]]
    return WRONG[field] + odd


class AttributesTest(unittest.TestCase):
    def test_all(self):
        self.assertEqual(attributes(some_request()), ["ab", (1, 2), 4, "draw", 17, 3, Automaton.read("1-/01+")])

    def test_defaults(self):
        self.assertEqual(attributes(Request("a", [1], 1)), ["a", (1,), 1, "best", 0, 1, None])
        self.assertEqual(Request("a", [1], 1, knob="best", seed=0, copies=1, automaton=None), Request("a", [1], 1))

    def test_the_text_is_copied(self):
        text = [1, 2]
        request = Request("a", text, 1)
        text.append(3)
        self.assertEqual(request.text, (1, 2))

    def test_by_name(self):
        self.assertEqual(Request(most=3, text=(1,), name="a", seed=4), Request("a", [1], 3, seed=4))
        with self.assertRaises(TypeError):
            Request("a", [1], 3, "best")

    def test_the_ends_of_the_bounds(self):
        for values in itertools.product(*[RIGHT[field] for field in FIELDS]):
            request = made(dict(zip(FIELDS, values)))
            self.assertEqual(attributes(request), [values[0], tuple(values[1])] + list(values[2:]))


class WrongFieldsTest(unittest.TestCase):
    def refused(self, field, call, *given, **named):
        with self.assertRaises(InvalidRequest) as caught:
            call(*given, **named)
        self.assertEqual(caught.exception.field, field, (given, named))

    def test_each_wrong_value(self):
        right = {field: RIGHT[field][0] for field in FIELDS}
        for field in FIELDS:
            for value in wrong_values(field):
                self.refused(field, made, {**right, field: value})

    def test_the_first_wrong_word(self):
        fields = {field: RIGHT[field][0] for field in FIELDS}
        for field in reversed(FIELDS):
            fields[field] = WRONG[field][0]
            self.refused(field, made, fields)

    def test_changed(self):
        request = some_request()
        for field in FIELDS:
            for value in wrong_values(field):
                self.refused(field, request.changed, **{field: value})
        more = {}
        for field in reversed(FIELDS):
            more[field] = WRONG[field][0]
            self.refused(field, request.changed, **more)
        self.assertEqual(request, some_request())

    def test_a_missing_token_of_an_automaton_is_no_error(self):
        self.assertEqual(Request("a", [5], 1, automaton=everything(2)).text, (5,))


class PossibleTest(unittest.TestCase):
    def test_without_an_automaton(self):
        self.assertIs(Request("a", [1], 1).possible, True)

    def test_with_one(self):
        chain = Automaton.read("1/2/3/-+")
        self.assertIs(Request("a", [1], 2, automaton=chain).possible, False)
        self.assertIs(Request("a", [1], 3, automaton=chain).possible, True)
        self.assertIs(Request("a", [1], 4, automaton=chain).possible, True)
        self.assertIs(Request("a", [1], 16, automaton=Automaton.read("0")).possible, False)
        self.assertIs(Request("a", [1], 1, automaton=Automaton.read("-+")).possible, True)


class FitsTest(unittest.TestCase):
    def test_the_text(self):
        for greatest, tokens in itertools.product(range(1, 6), range(2, 7)):
            self.assertIs(Request("a", [1, greatest, 1], 1).fits(tokens), greatest < tokens)

    def test_the_automaton(self):
        for own, tokens in itertools.product(range(2, 7), range(2, 7)):
            self.assertIs(Request("a", [1], 1, automaton=everything(own)).fits(tokens), own == tokens)
        self.assertIs(Request("a", [3], 1, automaton=everything(3)).fits(3), False)
        self.assertIs(Request("a", [1], 1, automaton=everything(3)).fits(tokens=3), True)


class NeedTest(unittest.TestCase):
    def test_the_document(self):
        needs = [
            Request("x", [1, 2], 4, copies=2).need(2), Request("x", [1, 2], 4).need(2),
            Request("x", [1, 2], 1, copies=2).need(2),
        ]
        self.assertEqual(needs, [5, 3, 1])

    def test_by_the_rule(self):
        for length, most, copies, page in itertools.product(range(1, 17), range(1, 17), range(1, 5), range(1, 6)):
            places = length + most - 1
            whole = min(n for n in range(places + 1) if n * page >= places)
            shared = length // page
            expected = whole if copies == 1 or most == 1 else shared + copies * (whole - shared)
            self.assertEqual(Request("a", [1] * length, most, copies=copies).need(page), expected)


class ChangedTest(unittest.TestCase):
    def test_each_field(self):
        for field in FIELDS:
            for value in RIGHT[field]:
                request = some_request()
                other = request.changed(**{field: value})
                expected = attributes(some_request())
                expected[FIELDS.index(field)] = tuple(value) if field == "text" else value
                self.assertEqual(attributes(other), expected)
                self.assertEqual(request, some_request())

    def test_several_in_any_order(self):
        other = some_request().changed(automaton=None, most=16, name="z", text=[5])
        self.assertEqual(attributes(other), ["z", (5,), 16, "draw", 17, 3, None])

    def test_none(self):
        request = some_request()
        self.assertEqual(request.changed(), request)
        self.assertIsNot(request.changed(), request)


class EqualityTest(unittest.TestCase):
    def test_equal(self):
        self.assertTrue(some_request() == some_request())
        self.assertFalse(some_request() != some_request())

    def test_not_equal(self):
        others = {
            "name": "b", "text": [1, 1], "most": 5, "knob": "best", "seed": 0, "copies": 1, "automaton": None,
        }
        for field, value in others.items():
            other = some_request().changed(**{field: value})
            self.assertFalse(some_request() == other, field)
            self.assertFalse(other == some_request(), field)
        for value in [None, "ab", (1, 2), everything(3), 0]:
            self.assertFalse(some_request() == value)


class LengthTest(unittest.TestCase):
    def test_len_and_repr(self):
        self.assertEqual(len(Request("a", [1], 6)), 1)
        self.assertEqual(len(Request("a", [1] * 16, 6)), 16)
        self.assertEqual(repr(Request("a", [1, 1], 6)), "Request(a, 2 tokens, most 6)")
        self.assertEqual(repr(Request("xyz", [1], 1)), "Request(xyz, 1 tokens, most 1)")


class EntryTest(unittest.TestCase):
    def test_entries(self):
        self.assertEqual(Request("x", [1, 2], 6).entry(".ab"), "ask x ab 6 best 0 1 *")
        self.assertEqual(some_request().entry(".ab"), "ask ab ab 4 draw 17 3 1-/01+")
        self.assertEqual(Request("q", [5, 1], 16, seed=9999, copies=4).entry(tokens="*+-/!~"), "ask q ~+ 16 best 9999 4 *")

    def test_there_and_back(self):
        automata = [None, everything(6), Automaton([[0, None, 1, 0, 0], [None] * 5], [1])]
        for values in itertools.product(["a", "zzzzzzzz"], [[1], [5, 4, 3, 2, 1], [2] * 16], [1, 9, 10, 16],
                                        ["best", "draw"], [0, 9, 10, 9999], [1, 4], automata):
            request = made(dict(zip(FIELDS, values)))
            for tokens in [".abcde", "*-+/01", "ask.!~"]:
                back = read_request(request.entry(tokens), tokens)
                self.assertEqual(back, request)
                self.assertEqual(attributes(back), attributes(request))


class ReadRequestTest(unittest.TestCase):
    def test_right_lines(self):
        self.assertEqual(read_request("ask x ab 6 best 0 1 *", ".ab"), Request("x", [1, 2], 6))
        self.assertEqual(read_request(tokens=".ab", line="ask x b 1 draw 5 2 1-/01+"),
                         Request("x", [2], 1, knob="draw", seed=5, copies=2, automaton=Automaton.read("1-/01+")))
        self.assertEqual(read_request("ask ask aba 16 best 9999 4 --+", ".ab").name, "ask")

    def test_wrong_words(self):
        words = ["ask", "x", "ab", "6", "best", "0", "1", "*"]
        wrong = [
            ["", "Ask", "asks", "token", "cancel", "ask\n"],
            ["", "X", "x1", "abcdefghi", "*", "x\n"],
            ["", ".", "a.b", "c", "abc", "A", "a" * 17, "a" * 12000, "ab\n", "12"],
            ["", "0", "17", "06", "+6", "-1", "6.0", "x", "6\n", "6" * 5000],
            ["", "Best", "bes", "draw\n", "worst", "best,"],
            ["", "-1", "10000", "00", "-0", "+1", "x", "0" * 12000],
            ["", "0", "5", "01", "-1", "x", "1\n"],
            ["", "**", "0+", "000+", "00+/0+", "x", "0", "00", "1-/01", "2-/01+", "00+\n", "*\n", "+", "00++", "None"],
        ]
        self.assertIsNotNone(read_request(" ".join(words), ".ab"))
        for at, values in enumerate(wrong):
            for value in values:
                line = " ".join(words[:at] + [value] + words[at + 1:])
                self.assertIsNone(read_request(line, ".ab"), line)

    def test_wrong_lines(self):
        right = "ask x ab 6 best 0 1 *"
        wrong = [
            "", " ", "\n", "ask", right + "\n", right + " ", " " + right, right + " *", right.replace(" ", "  ", 1),
            right.replace(" ", "\n"), right.rsplit(" ", 1)[0], right + "\n" + right, "token x 0 b", "cancel x",
            " " * 12000, "a" * 12000, right.upper(), "ask x ab 6 best 0 1\n*",
        ]
        for line in wrong:
            self.assertIsNone(read_request(line, ".ab"), line)

    def test_tokens_of_the_net(self):
        self.assertEqual(read_request("ask x *+ 6 best 0 1 *", "-*+").text, (1, 2))
        self.assertIsNone(read_request("ask x -* 6 best 0 1 *", "-*+"))
        self.assertIsNone(read_request("ask x ab 6 best 0 1 *", ".a"))
        self.assertIsNone(read_request("ask x ab 6 best 0 1 *", "ab"))

    def test_an_automaton_for_other_tokens(self):
        for tokens, own in itertools.product(range(2, 7), range(2, 7)):
            line = f"ask x a 6 best 0 1 {everything(own)}"
            self.assertEqual(read_request(line, ".abcde"[:tokens]) is not None, own == tokens)

    def test_not_possible(self):
        self.assertIsNone(read_request("ask x a 2 best 0 1 1-/2-/3-/--+", ".ab"))
        self.assertIsNotNone(read_request("ask x a 3 best 0 1 1-/2-/3-/--+", ".ab"))
        self.assertIsNone(read_request("ask x a 16 best 0 1 00", ".ab"))

    def test_values_that_are_no_strings(self):
        for value in odd_values() + [0, 5, ["ask x ab 6 best 0 1 *"], "ask x ab 6 best 0 1 *".split(" ")]:
            self.assertIsNone(read_request(value, ".ab"))


if __name__ == "__main__":
    unittest.main()
