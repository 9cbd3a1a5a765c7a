"""Journals: [20], [21], and of [23] the age of runs."""

import itertools
import unittest

from answersalone.answers import Answer
from answersalone.automata import Automaton, everything
from answersalone.errors import InvalidLine, UnknownName, UnknownRun
from answersalone.journal import Journal
from answersalone.requests import Request

from standin import odd_values

ASK = "ask x ab 2 best 0 1 *"
TWO = "ask y b 3 draw 17 2 1-/01+"
SIXTEEN = [f"ask {'abcdefghijklmnop'[at]} a 1 best 0 1 *" for at in range(16)]


def journal_of(*lines, tokens=".ab"):
    journal = Journal(tokens)
    for line in lines:
        journal.enter(line)
    return journal


def state(journal):
    answers = [
        journal.answer(name, run) for name in journal.names() for run in range(journal.request(name).copies)
    ]
    return journal.lines(), journal.written(), journal.names(), journal.live(), answers


class RefusingCase(unittest.TestCase):
    def refused(self, why, lines, last, tokens=".ab"):
        """The last line is refused with this word, by enter and by read, and nothing is changed by that."""
        journal = journal_of(*lines, tokens=tokens)
        before = state(journal)
        with self.assertRaises(InvalidLine) as caught:
            journal.enter(last)
        self.assertEqual((caught.exception.line, caught.exception.why), (len(lines), why), last)
        self.assertEqual(state(journal), before)
        if isinstance(last, str) and "\n" not in last:
            for rest in ["", "\n", "cancel nobody\n", "token", ASK + "\n"]:
                with self.assertRaises(InvalidLine) as caught:
                    Journal.read(tokens, "".join(line + "\n" for line in [*lines, last]) + rest)
                self.assertEqual((caught.exception.line, caught.exception.why), (len(lines), why), last)


class LinesTest(unittest.TestCase):
    def test_an_empty_journal(self):
        journal = Journal(".ab")
        self.assertEqual(state(journal), ([], "", [], [], []))
        self.assertEqual((list(journal), len(journal), repr(journal)), ([], 0, "Journal(0 lines)"))
        self.assertIs(bool(journal), True)
        self.assertEqual(state(Journal(tokens=".ab")), state(journal))

    def test_each_kind_there_and_back(self):
        lines = [ASK, TWO, "token x 0 b", "token y 1 a", "token y 1 .", "cancel y", "token x 0 a"]
        journal = journal_of(*lines)
        text = "".join(line + "\n" for line in lines)
        self.assertEqual(journal.lines(), lines)
        self.assertEqual(journal.written(), text)
        self.assertEqual(list(journal), lines)
        self.assertEqual([line for line in journal], lines)
        self.assertEqual((len(journal), repr(journal)), (7, "Journal(7 lines)"))
        again = Journal.read(".ab", text)
        self.assertIsInstance(again, Journal)
        self.assertEqual(state(again), state(journal))
        self.assertEqual(state(Journal.read(text=text, tokens=".ab")), state(journal))

    def test_enter_returns_nothing(self):
        self.assertIsNone(Journal(".ab").enter(line=ASK))

    def test_all_beginnings_are_journals(self):
        lines = [ASK, TWO, "token x 0 b", "token y 1 a", "token y 1 .", "cancel y", "token x 0 a"]
        for many in range(len(lines) + 1):
            text = "".join(line + "\n" for line in lines[:many])
            self.assertEqual(Journal.read(".ab", text).lines(), lines[:many])

    def test_told_lists_are_new(self):
        journal = journal_of(ASK, TWO)
        for told in [journal.lines(), journal.names(), journal.live()]:
            self.assertIsInstance(told, list)
            told.clear()
        self.assertEqual(journal.lines(), [ASK, TWO])
        self.assertEqual(journal.names(), ["x", "y"])
        self.assertEqual(journal.live(), [("x", 0), ("y", 0), ("y", 1)])

    def test_other_tokens(self):
        journal = journal_of("ask x 21 2 best 0 1 *", "token x 0 2", "token x 0 0", tokens="0123")
        self.assertEqual(journal.request("x").text, (2, 1))
        self.assertEqual(journal.answer("x"), Answer([2], "end"))


class RequestsTest(unittest.TestCase):
    def test_requests(self):
        journal = journal_of(TWO, ASK)
        self.assertEqual(journal.names(), ["y", "x"])
        self.assertEqual(journal.request("x"), Request("x", [1, 2], 2))
        automaton = Automaton.read("1-/01+")
        self.assertEqual(
            journal.request(name="y"), Request("y", [2], 3, knob="draw", seed=17, copies=2, automaton=automaton))

    def test_contains_any_value(self):
        journal = journal_of(ASK)
        self.assertTrue("x" in journal)
        for value in ["y", "", "xx", "X", ASK, 0, 1] + odd_values():
            self.assertFalse(value in journal)
            self.assertTrue(value not in journal)

    def test_unknown_names(self):
        journal = journal_of(ASK)
        for name in ["y", "", "x ", "X", 0, 1] + odd_values():
            for call in [lambda: journal.request(name), lambda: journal.answer(name),
                         lambda: journal.answer(name, 7), lambda: journal.answer(name=name, run=None)]:
                with self.assertRaises(UnknownName) as caught:
                    call()
                self.assertIs(caught.exception.name, name)

    def test_unknown_runs(self):
        journal = journal_of(ASK, TWO)
        odd = [-1, 2, 4, 10 ** 9, "0", ""] + odd_values()
        for name, runs in [("x", odd + [1]), ("y", odd)]:
            for run in runs:
                with self.assertRaises(UnknownRun) as caught:
                    journal.answer(name, run)
                self.assertIs(caught.exception.run, run)
        self.assertEqual(journal.answer("y", 1), journal.answer(run=1, name="y"))


class AnswersTest(unittest.TestCase):
    def answer(self, *lines):
        answer = journal_of("ask x ab 3 best 0 2 *", *lines).answer("x")
        self.assertIsInstance(answer, Answer)
        self.assertIsInstance(answer.tokens, tuple)
        return answer

    def test_live(self):
        self.assertEqual(self.answer(), Answer([], "live"))
        self.assertEqual(self.answer("token x 0 b", "token x 0 a"), Answer([2, 1], "live"))

    def test_end(self):
        self.assertEqual(self.answer("token x 0 ."), Answer([], "end"))
        self.assertEqual(self.answer("token x 0 b", "token x 0 b", "token x 0 ."), Answer([2, 2], "end"))

    def test_full(self):
        self.assertEqual(self.answer("token x 0 b", "token x 0 b", "token x 0 a"), Answer([2, 2, 1], "full"))

    def test_cancelled(self):
        self.assertEqual(self.answer("cancel x"), Answer([], "cancelled"))
        self.assertEqual(self.answer("token x 0 b", "cancel x"), Answer([2], "cancelled"))

    def test_end_and_full_stand_ahead_of_cancelled(self):
        self.assertEqual(self.answer("token x 0 b", "token x 0 .", "cancel x"), Answer([2], "end"))
        full = ["token x 0 b"] * 3
        self.assertEqual(self.answer(*full, "cancel x"), Answer([2, 2, 2], "full"))

    def test_runs_have_their_own_answers(self):
        lines = ["ask x ab 3 best 0 2 *", "token x 1 b", "token x 0 a", "token x 1 .", "cancel x"]
        answers = []
        for many in range(1, 6):
            journal = journal_of(*lines[:many])
            answers.append([journal.answer("x", run) for run in range(2)])
        self.assertEqual(answers, [
            [Answer(), Answer()],
            [Answer(), Answer([2])],
            [Answer([1]), Answer([2])],
            [Answer([1]), Answer([2], "end")],
            [Answer([1], "cancelled"), Answer([2], "end")],
        ])

    def test_requests_have_their_own_answers(self):
        journal = journal_of(ASK, "ask y ab 2 best 0 1 *", "token y 0 a", "cancel y")
        self.assertEqual([journal.answer("x"), journal.answer("y")], [Answer(), Answer([1], "cancelled")])


class LiveTest(unittest.TestCase):
    def test_by_age(self):
        journal = journal_of(
            "ask b a 2 best 0 3 *", "ask a a 2 best 0 1 *", "ask c a 2 best 0 2 *", "token c 1 a", "token b 2 a",
        )
        self.assertEqual(
            journal.live(), [("b", 0), ("b", 1), ("b", 2), ("a", 0), ("c", 0), ("c", 1)])
        self.assertEqual(journal.names(), ["b", "a", "c"])

    def test_which_runs_are_live(self):
        journal = journal_of("ask b a 2 best 0 3 *", "ask a a 1 best 0 1 *", "ask c a 2 best 0 2 *")
        for line, live in [
            ("token b 1 .", [("b", 0), ("b", 2), ("a", 0), ("c", 0), ("c", 1)]),
            ("token a 0 b", [("b", 0), ("b", 2), ("c", 0), ("c", 1)]),
            ("token b 0 a", [("b", 0), ("b", 2), ("c", 0), ("c", 1)]),
            ("cancel c", [("b", 0), ("b", 2)]),
            ("token b 0 a", [("b", 2)]),
            ("cancel b", []),
        ]:
            journal.enter(line)
            self.assertEqual(journal.live(), live)
        self.assertEqual(journal.names(), ["b", "a", "c"])


class FormTest(RefusingCase):
    def test_lines_of_no_form(self):
        for line in ["", " ", "ask", "token", "cancel", "ask x", "Ask x ab 2 best 0 1 *", "end", "token x 0", "x",
                     "cancel", "cancel ", "cancel  x", "cancel x ", " cancel x", "cancel x y", "cancel X", "cancel x1",
                     "cancel abcdefghi", "cancel *", "token x 0 b ", " token x 0 b", "token  x 0 b", "token x 0  b",
                     "token x 0 ab", "token x 0 c", "token x 0 ", "token x 00 b", "token x +0 b", "token x -0 b",
                     "token x -1 b", "token x 4 b", "token x 10 b", "token x a b", "token X 0 b", "token abcdefghi 0 b",
                     "token x 0 b b", "token x  b", "token x 0 B", "tokens x 0 b"]:
            self.refused("form", [ASK], line)

    def test_ask_lines_of_no_form(self):
        for line in ["ask X ab 2 best 0 1 *", "ask abcdefghi ab 2 best 0 1 *", "ask y  2 best 0 1 *",
                     "ask y a.b 2 best 0 1 *", "ask y . 2 best 0 1 *", "ask y c 2 best 0 1 *",
                     "ask y " + "a" * 17 + " 2 best 0 1 *", "ask y ab 0 best 0 1 *", "ask y ab 17 best 0 1 *",
                     "ask y ab 02 best 0 1 *", "ask y ab 2 worst 0 1 *", "ask y ab 2 best 10000 1 *",
                     "ask y ab 2 best -1 1 *", "ask y ab 2 best 0 0 *", "ask y ab 2 best 0 5 *", "ask y ab 2 best 0 1",
                     "ask y ab 2 best 0 1 ", "ask y ab 2 best 0 1 **", "ask y ab 2 best 0 1 2", "ask y ab 2 best 0 1 * ",
                     "ask y ab 2 best 0 1 00+/", "ask  y ab 2 best 0 1 *", "ask y ab 2 best 0 1 * *"]:
            self.refused("form", [ASK], line)

    def test_an_automaton_for_other_tokens(self):
        for word in ["0+", "000+"]:
            self.refused("form", [ASK], f"ask y ab 2 best 0 1 {word}")
        journal_of(ASK, f"ask y ab 2 best 0 1 {everything(3)}")

    def test_a_request_that_is_not_possible(self):
        self.refused("form", [ASK], "ask y ab 2 best 0 1 00")
        self.refused("form", [ASK], "ask y ab 2 best 0 1 1-/2-/3-/--+")
        journal_of(ASK, "ask y ab 3 best 0 1 1-/2-/3-/--+")

    def test_values_that_are_no_strings(self):
        for value in [0, 3] + odd_values():
            self.refused("form", [], value)
            self.refused("form", [ASK, "token x 0 b"], value)

    def test_a_line_with_a_line_feed(self):
        for line in [ASK.replace("x", "y") + "\n", "token x 0 b\n", "cancel x\n", "cancel x\ncancel x", "\n"]:
            self.refused("form", [ASK], line)

    def test_the_bounds_are_inside(self):
        journal = journal_of(
            "ask abcdefgh abababababababab 16 draw 9999 4 1-/-2/3-/-4/5-/--+", "ask x a 1 best 0 1 *",
            "token abcdefgh 3 b", "token abcdefgh 0 a",
        )
        self.assertEqual(len(journal), 4)

    def test_a_text_without_its_last_line_feed(self):
        for many in range(3):
            lines = [ASK, "token x 0 b", "cancel x"]
            begun = "".join(line + "\n" for line in lines[:many])
            for last in [lines[many], lines[many][:3], " ", "x"]:
                with self.assertRaises(InvalidLine) as caught:
                    Journal.read(".ab", begun + last)
                self.assertEqual((caught.exception.line, caught.exception.why), (many, "form"))

    def test_texts_with_an_empty_line(self):
        for text, line in [("\n", 0), (f"{ASK}\n\n", 1), (f"\n{ASK}\n", 0), (f"{ASK}\n\ntoken x 0 b\n", 1)]:
            with self.assertRaises(InvalidLine) as caught:
                Journal.read(".ab", text)
            self.assertEqual((caught.exception.line, caught.exception.why), (line, "form"))

    def test_texts_that_are_no_strings(self):
        for value in [0, 3, [ASK]] + odd_values():
            with self.assertRaises(InvalidLine) as caught:
                Journal.read(".ab", value)
            self.assertEqual((caught.exception.line, caught.exception.why), (0, "form"))

    def test_an_empty_text(self):
        self.assertEqual(Journal.read(".ab", "").lines(), [])


class WordsTest(RefusingCase):
    def test_many(self):
        self.assertEqual(len(journal_of(*SIXTEEN)), 16)
        self.refused("many", SIXTEEN, "ask z a 1 best 0 1 *")

    def test_many_counts_requests_that_are_not_live_as_well(self):
        over = [f"token {line[4]} 0 ." for line in SIXTEEN]
        self.refused("many", SIXTEEN + over, "ask z a 1 best 0 1 *")
        mixed = [line for pair in zip(SIXTEEN, over) for line in pair]
        self.refused("many", mixed, "ask z a 1 best 0 1 *")

    def test_double(self):
        self.refused("double", [ASK], ASK)
        self.refused("double", [ASK], "ask x b 9 draw 3 2 *")
        self.refused("double", [ASK, "cancel x"], ASK)
        self.refused("double", SIXTEEN[:15], SIXTEEN[7])

    def test_name(self):
        self.refused("name", [], "cancel x")
        self.refused("name", [ASK], "cancel y")
        self.refused("name", [ASK], "token y 0 b")
        self.refused("name", [], "token x 3 .")

    def test_run(self):
        self.refused("run", [ASK], "token x 1 b")
        self.refused("run", [ASK], "token x 3 b")
        for copies in range(1, 5):
            lines = [f"ask x ab 2 best 0 {copies} *"]
            for run in range(4):
                if run < copies:
                    lines.append(f"token x {run} a")
                else:
                    self.refused("run", lines, f"token x {run} a")

    def test_late_tokens(self):
        self.refused("late", [ASK, "token x 0 ."], "token x 0 b")
        self.refused("late", [ASK, "token x 0 ."], "token x 0 .")
        self.refused("late", [ASK, "token x 0 b", "token x 0 b"], "token x 0 b")
        self.refused("late", [ASK, "token x 0 b", "token x 0 b"], "token x 0 .")
        self.refused("late", [ASK, "token x 0 b", "cancel x"], "token x 0 b")

    def test_late_for_one_run_alone(self):
        lines = [TWO, "token y 1 a", "token y 1 ."]
        self.refused("late", lines, "token y 1 a")
        self.assertEqual(journal_of(*lines, "token y 0 a").live(), [("y", 0)])

    def test_late_cancels(self):
        self.refused("late", [ASK, "cancel x"], "cancel x")
        self.refused("late", [ASK, "token x 0 ."], "cancel x")
        self.refused("late", [TWO, "token y 0 .", "token y 1 ."], "cancel y")
        self.assertEqual(journal_of(TWO, "token y 0 .", "cancel y").answer("y", 1), Answer([], "cancelled"))

    def test_the_first_word_that_applies(self):
        # Many stands ahead of double, name ahead of run, run ahead of late, and form ahead of all.
        self.refused("many", SIXTEEN, SIXTEEN[0])
        self.refused("form", SIXTEEN, "ask a a 0 best 0 1 *")
        self.refused("form", [ASK], "ask x c 2 best 0 1 *")
        self.refused("name", [ASK], "token y 1 b")
        self.refused("run", [ASK, "token x 0 ."], "token x 1 b")
        self.refused("run", [ASK, "cancel x"], "token x 2 .")
        self.refused("form", [ASK, "cancel x"], "token x 4 b")
        self.refused("form", [], "token y 0 c")
        self.refused("form", [], "cancel Y")

    def test_the_first_line_counts(self):
        wrong = ["", "cancel y", "token x 3 a", ASK]
        for order in itertools.permutations(wrong):
            words = {"": "form", "cancel y": "name", "token x 3 a": "run", ASK: "double"}
            with self.assertRaises(InvalidLine) as caught:
                Journal.read(".ab", "".join(line + "\n" for line in (ASK, *order)))
            self.assertEqual((caught.exception.line, caught.exception.why), (1, words[order[0]]))


if __name__ == "__main__":
    unittest.main()
