"""Audits and their verdicts: [35], with [20] and [21]."""

import random
import unittest

from answersalone.answers import Answer
from answersalone.audit import Verdict, audit, plain_lines
from answersalone.automata import Automaton
from answersalone.disk import Disk
from answersalone.engine import Engine
from answersalone.errors import InvalidLine, InvalidRequest
from answersalone.journal import Journal
from answersalone.nets import Net
from answersalone.plain import plain_answer
from answersalone.requests import Request

from samples import example_net, some_net, some_parts, some_request
from standin import odd_values

X = "ask x ab 6 best 0 1 *"
Y = "ask y aab 6 best 0 2 *"
# Its automaton wants the token b and nothing behind it, so its plain answer is b, with the reason end.
ENDING = "ask x ab 6 best 0 1 -1/--+"


def text_of(*lines):
    return "".join(line + "\n" for line in lines)


def ending_net(draw):
    """A net that often chooses the end."""
    parts = some_parts(draw, tokens=3, width=2, greatest=2)
    parts["base"][0] = draw.choice([2, 5, 9])
    return Net(**parts)


class AuditTest(unittest.TestCase):
    def check(self, line, why, *lines, net=None):
        """The verdict on the lines, and on each beginning of them."""
        net = example_net() if net is None else net
        verdict = audit(net, text_of(*lines))
        self.assertIsInstance(verdict, Verdict)
        self.assertEqual((verdict.line, verdict.why), (line, why), lines)
        for many in range(len(lines) if line is None else line + 1):
            self.assertEqual(audit(net, text_of(*lines[:many])), Verdict())

    def right(self, *lines, net=None):
        self.check(None, "", *lines, net=net)


class RightTest(AuditTest):
    def test_nothing_and_asks_alone(self):
        self.right()
        self.right(X, Y)

    def test_the_answers_of_the_document(self):
        told = [f"token x 0 {character}" for character in "baaaaa"]
        self.right(X, *told)
        self.right(X, Y, *told, *["token y 0 a", "token y 1 a"] * 6)

    def test_the_example_of_the_document(self):
        self.check(2, "token", "ask x ab 2 best 0 1 *", "token x 0 b", "token x 0 b")

    def test_ends(self):
        self.right(ENDING, "token x 0 b", "token x 0 .")
        self.right(X, ENDING.replace("x", "z"), "token z 0 b", "token x 0 b", "token z 0 .", "token x 0 a")

    def test_cancelled_ones(self):
        self.right(X, "token x 0 b", "cancel x")
        self.right(X, Y, "cancel y", "token x 0 b", "cancel x")

    def test_copies_and_knobs(self):
        for seed in range(40):
            draw = random.Random(seed)
            net = draw.choice([some_net, ending_net])(draw)
            requests = [some_request(draw, name, len(net.tokens)) for name in "abc"]
            lines = plain_lines(net, *requests)
            asks, told = lines[:3], lines[3:]
            self.assertTrue(audit(net, text_of(*lines)))
            # The lines of each run stay in order, the runs are mixed.
            runs = {}
            for line in told:
                runs.setdefault(line.split(" ")[1] + line.split(" ")[2], []).append(line)
            mixed = list(asks)
            while any(runs.values()):
                mixed.append(draw.choice([rest for rest in runs.values() if rest]).pop(0))
            self.right(*mixed, net=net)


class WrongTokenTest(AuditTest):
    def test_another_token(self):
        self.check(1, "token", X, "token x 0 a")
        self.check(1, "token", X, "token x 0 .")
        self.check(2, "token", X, "token x 0 b", "token x 0 b", "token x 0 a")
        self.check(6, "token", X, *[f"token x 0 {character}" for character in "baaaab"])

    def test_an_end_that_is_told_too_early_too_late_or_not_at_all(self):
        self.check(1, "token", ENDING, "token x 0 .")
        self.check(2, "token", ENDING, "token x 0 b", "token x 0 b", "token x 0 .")
        self.check(2, "token", ENDING, "token x 0 b", "token x 0 a")
        self.check(3, "token", X, "token x 0 b", "token x 0 a", "token x 0 .")

    def test_the_first_wrong_line_counts(self):
        self.check(2, "token", X, Y, "token y 0 b", "token x 0 a", "rubbish")
        self.check(3, "form", X, Y, "token y 0 a", "rubbish", "token x 0 a")

    def test_a_line_that_cannot_stand_has_its_own_word(self):
        self.check(1, "name", X, "token z 0 a")
        self.check(1, "run", X, "token x 1 a")
        self.check(3, "late", ENDING, "token x 0 b", "token x 0 .", "token x 0 a")
        self.check(2, "late", X, "cancel x", "token x 0 a")

    def test_every_other_token_is_wrong(self):
        seen = {"end": 0, "full": 0}
        for seed in range(60):
            draw = random.Random(seed)
            net = draw.choice([some_net, ending_net])(draw)
            request = some_request(draw, "x", len(net.tokens))
            run = draw.randint(0, request.copies - 1)
            answer = plain_answer(net, request, run)
            seen[answer.why] += 1
            tokens = list(answer.tokens) + [0] * (answer.why == "end")
            for at, token in enumerate(tokens):
                ahead = [request.entry(net.tokens)] + [f"token x {run} {net.tokens[told]}" for told in tokens[:at]]
                for other, character in enumerate(net.tokens):
                    line = f"token x {run} {character}"
                    verdict = audit(net, text_of(*ahead, line))
                    self.assertEqual(verdict, Verdict() if other == token else Verdict(at + 1, "token"))
        self.assertGreater(min(seen.values()), 10, seen)

    def test_copies_have_seeds_of_their_own(self):
        draw = random.Random(11)
        parted = 0
        while parted < 10:
            net = some_net(draw, tokens=4)
            request = some_request(draw, "x", 4, knob="draw", copies=2, most=5, automaton=None)
            answers = [plain_answer(net, request, run) for run in (0, 1)]
            if answers[0] == answers[1]:
                continue
            parted += 1
            lines = plain_lines(net, request)
            # The token lines of the runs change places.
            spoilt = [lines[0]] + [line.replace("token x 1 ", "token x 9 ").replace("token x 0 ", "token x 1 ")
                                   .replace("token x 9 ", "token x 0 ") for line in lines[1:]]
            self.assertTrue(audit(net, text_of(*lines)))
            self.assertEqual(audit(net, text_of(*spoilt)).why in ("token", "late"), True)

    def test_the_net_decides(self):
        lines = [X, "token x 0 b", "token x 0 a"]
        self.right(*lines)
        draw = random.Random(12)
        verdicts = {audit(some_net(draw, tokens=3), text_of(X)).why for _ in range(10)}
        # Made-up nets have other tokens than .ab, mostly.
        self.assertIn("form", verdicts)


class JournalWordsTest(AuditTest):
    """Each word of [21], with the first line that does not stand."""

    def test_form(self):
        for line in ["", " ", "rubbish", "token x 0", "token x 0 c", "token x 00 b", "token x 4 b", "token x  0 b",
                     "cancel", "cancel X", "ask x ab 6 best 0 1", "ask x a. 6 best 0 1 *", "ask x ab 17 best 0 1 *",
                     "ask x ab 6 best 0 5 *", "ask x ab 6 best 10000 1 *", "ask x ab 6 worst 0 1 *",
                     "ask x ab 1 best 0 1 1-/01/--+", "ask z ab 1 best 0 1 1/0+", "ask z ab 6 best 0 1 --"]:
            self.check(1, "form", X, line, "token x 0 b")

    def test_many_and_double(self):
        asks = [X.replace(" x ", f" {name} ") for name in "abcdefghijklmnopq"]
        self.check(16, "many", *asks)
        self.check(16, "many", *asks[:16], asks[0])
        self.check(1, "double", X, X)
        self.check(2, "double", X, "cancel x", X)
        self.right(*asks[:16])

    def test_name_run_and_late(self):
        self.check(0, "name", "token x 0 b")
        self.check(0, "name", "cancel x", X)
        self.check(1, "run", X, "token x 1 b")
        self.check(2, "run", X, Y, "token y 2 a")
        self.check(7, "late", X, *[f"token x 0 {character}" for character in "baaaaa"], "token x 0 a")
        self.check(7, "late", X, *[f"token x 0 {character}" for character in "baaaaa"], "cancel x")
        self.check(3, "late", ENDING, "token x 0 b", "token x 0 .", "token x 0 b")
        self.check(2, "late", X, "cancel x", "cancel x")

    def test_line_feeds(self):
        net = example_net()
        for text, line in [(X, 0), (text_of(X) + "t", 1), (text_of(X) + "token x 0 b", 1), (text_of(X, "", Y), 1),
                           ("\n", 0), (text_of(X) + "\n", 1), (text_of(X, "token x 0 b") + " ", 2)]:
            self.assertEqual(audit(net, text), Verdict(line, "form"), text)
        self.assertEqual(audit(net, text_of(X, "token x 0 a") + "t"), Verdict(1, "token"))
        self.assertEqual(audit(net, ""), Verdict())

    def test_values_that_are_no_strings(self):
        for value in odd_values() + [0, 7, [X], (X,), example_net(), Journal(".ab"), Disk(text_of(X))]:
            self.assertEqual(audit(example_net(), value), Verdict(0, "form"))

    def test_it_agrees_with_journals(self):
        pieces = ["token", "x", "y", "z", "0", "1", "2", "a", "b", ".", "", "cancel", X, Y, "\n"]
        draw = random.Random(13)
        net = example_net()
        for _ in range(400):
            lines = [" ".join(draw.choice(pieces) for _ in range(draw.choice([1, 2, 4, 4])))
                     if draw.random() < 0.3 else draw.choice([X, Y, "cancel x", "token x 0 b", "token y 0 a",
                                                              "token y 1 a", "token x 0 a", "cancel y"])
                     for _ in range(draw.randint(0, 7))]
            text = text_of(*lines) + draw.choice(["", "", "", "t"])
            verdict = audit(net, text)
            try:
                Journal.read(".ab", text)
            except InvalidLine as error:
                told = (error.line, error.why)
            else:
                told = (None, "")
            if verdict.why != "token":
                self.assertEqual((verdict.line, verdict.why), told)
            else:
                self.assertTrue(told[0] is None or verdict.line < told[0])
                word, name, run, character = text.split("\n")[verdict.line].split(" ")
                journal = Journal.read(".ab", text_of(*text.split("\n")[:verdict.line]))
                tokens = journal.answer(name, int(run)).tokens
                plain = plain_answer(net, journal.request(name), int(run)).tokens
                self.assertEqual((word, tokens), ("token", plain[:len(tokens)]))
                self.assertNotEqual(".ab".index(character), plain[len(tokens)])


class PlainLinesTest(unittest.TestCase):
    def test_the_requests_of_the_document(self):
        lines = plain_lines(example_net(), Request("x", [1, 2], 6), Request("y", (1, 1, 2), 3, copies=2))
        self.assertEqual(lines, [
            "ask x ab 6 best 0 1 *", "ask y aab 3 best 0 2 *",
            "token x 0 b", "token x 0 a", "token x 0 a", "token x 0 a", "token x 0 a", "token x 0 a",
            "token y 0 a", "token y 0 a", "token y 0 a", "token y 1 a", "token y 1 a", "token y 1 a",
        ])

    def test_ends(self):
        ending = Request("x", [1, 2], 6, automaton=Automaton.read("-1/--+"))
        self.assertEqual(plain_lines(example_net(), ending), [ENDING, "token x 0 b", "token x 0 ."])
        self.assertEqual(plain_lines(example_net(), ending.changed(most=1)),
                         ["ask x ab 1 best 0 1 -1/--+", "token x 0 b"])
        nothing = Request("x", [1, 2], 6, automaton=Automaton([[None, None]], [0]))
        self.assertEqual(plain_lines(example_net(), nothing), ["ask x ab 6 best 0 1 --+", "token x 0 ."])

    def test_no_requests(self):
        self.assertEqual(plain_lines(example_net()), [])

    def test_made_up_ones(self):
        ends = 0
        for seed in range(50):
            draw = random.Random(seed)
            net = draw.choice([some_net, ending_net])(draw)
            requests = [some_request(draw, name, len(net.tokens)) for name in "abcd"[:draw.randint(1, 4)]]
            expected = [request.entry(net.tokens) for request in requests]
            for request in requests:
                for run in range(request.copies):
                    answer = plain_answer(net, request, run)
                    expected += [f"token {request.name} {run} {net.tokens[token]}" for token in answer.tokens]
                    if answer.why == "end":
                        ends += 1
                        expected.append(f"token {request.name} {run} {net.tokens[0]}")
            self.assertEqual(plain_lines(net, *requests), expected)
            journal = Journal.read(net.tokens, text_of(*expected))
            for request in requests:
                for run in range(request.copies):
                    self.assertEqual(journal.answer(request.name, run), plain_answer(net, request, run))
        self.assertGreater(ends, 10)

    def test_errors(self):
        right = Request("x", [1, 2], 2)
        five = Request("y", [1, 5], 2)
        two = Request("z", [1], 2, automaton=Automaton([[0]], [0]))
        impossible = Request("w", [1], 2, automaton=Automaton([[None, None]]))
        both = Request("v", [5], 2, automaton=Automaton([[None]]))
        for requests, field in [([five], "text"), ([two], "automaton"), ([impossible], "most"), ([both], "text"),
                                ([right, two, five], "automaton"), ([impossible, right, five], "most"),
                                ([right, right.changed(name="u"), five, impossible], "text")]:
            with self.assertRaises(InvalidRequest) as caught:
                plain_lines(example_net(), *requests)
            self.assertEqual(caught.exception.field, field)


class VerdictTest(unittest.TestCase):
    def test_attributes_and_truth(self):
        verdict = Verdict()
        self.assertEqual((verdict.line, verdict.why, bool(verdict)), (None, "", True))
        verdict = Verdict(3, "late")
        self.assertEqual((verdict.line, verdict.why, bool(verdict)), (3, "late", False))
        self.assertFalse(Verdict(0, "form"))
        self.assertEqual(bool(Verdict(line=0)), False)
        self.assertIs(bool(Verdict(why="", line=None)), True)

    def test_equality(self):
        self.assertEqual(Verdict(), Verdict(None, ""))
        self.assertEqual(Verdict(2, "token"), Verdict(line=2, why="token"))
        for other in [Verdict(3, "token"), Verdict(2, "late"), Verdict(), Answer(), (2, "token"), None, 2, "token",
                      InvalidLine(2, "token")]:
            self.assertNotEqual(Verdict(2, "token"), other)
            self.assertFalse(Verdict(2, "token") == other)
        self.assertFalse(Verdict() == True)  # noqa: E712

    def test_repr(self):
        self.assertEqual([repr(Verdict()), repr(Verdict(3, "late")), repr(Verdict(0, "form"))],
                         ["Verdict(right)", "Verdict(3, late)", "Verdict(0, form)"])


class EngineTest(unittest.TestCase):
    def test_a_journal_of_an_engine(self):
        disk = Disk()
        engine = Engine(example_net(), disk, page=2, room=4, budget=3)
        for request in [Request("x", [1, 2], 6), Request("y", [1, 1, 2], 6)]:
            engine.submit(request)
            self.assertTrue(audit(example_net(), disk.content))
        for _ in engine.story():
            self.assertTrue(audit(example_net(), disk.content))
        lines = disk.lines()
        self.assertEqual(sorted(lines), sorted(plain_lines(example_net(), *[
            Request("x", [1, 2], 6), Request("y", [1, 1, 2], 6)])))


if __name__ == "__main__":
    unittest.main()
