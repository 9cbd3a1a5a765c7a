"""Consoles: [40]."""

import itertools
import random
import unittest

from answersalone.audit import audit
from answersalone.console import Console
from answersalone.disk import Disk
from answersalone.drafters import Always, Echo, Foresight
from answersalone.engine import Engine
from answersalone.nets import Net
from answersalone.requests import Request

from samples import EXAMPLE, example_net
from standin import RecordingNet

X = "ask x ab 6 best 0 1 *"
Y = "ask y aab 6 best 0 1 *"
NEED_ENGINE = [X, "cancel x", "round", "round 3", "told x 0", "standing", "counts"]


def opened(*lines, disk=None):
    """A console of the net of [31], to which these lines were given."""
    console = Console(example_net(), disk)
    for line in lines:
        console.say(line)
    return console


class ConsoleTest(unittest.TestCase):
    def check(self, console, *pairs):
        for line, answer in pairs:
            self.assertEqual(console.say(line), answer, line)
            self.assertIs(console.busy, False)


class StoryTest(ConsoleTest):
    def test_the_first_run_of_the_document(self):
        self.check(
            Console(example_net()),
            ("open 2 8 4 0 none", "open 0"), (X, "taken"), (Y, "taken"), ("standing", "0 0"), ("counts", "0 0 0 0 0"),
            ("round", "round 1"), ("told x 0", "live:b"), ("told y 0", "live:"), ("standing", "2 0"),
            ("counts", "1 4 0 0 2"), ("round", "round 2"), ("standing", "2 2"), ("told x 0", "live:ba"),
            ("round 9999", "round 3"), ("round", "round 4"), ("round", "round 5"), ("round", "round 6"),
            ("round", "round 7"), ("counts", "7 15 0 0 7"), ("standing", "7 0"), ("told x 0", "full:baaaaa"),
            ("told y 0", "full:aaaaaa"), ("audit", "right"), ("round", "round 8"), ("counts", "8 15 0 0 7"),
        )

    def test_the_second_run_of_the_document(self):
        console = opened("open 2 4 3 0 none", X, Y)
        standing = []
        for at in range(1, 11):
            self.check(console, ("round", f"round {at}"))
            standing.append(sum(int(word) for word in console.say("standing").split(" ")))
        self.assertEqual(standing, [2, 4, 4, 4, 4, 4, 4, 4, 4, 4])
        self.check(console, ("counts", "10 19 4 1 4"), ("told x 0", "full:baaaaa"), ("told y 0", "full:aaaaaa"))

    def test_a_drafter(self):
        console = opened("open 2 8 9 2 always:ba", X)
        self.check(console, ("round", "round 1"), ("told x 0", "live:baa"), ("counts", "1 4 0 0 2"), ("round", "round 2"),
                   ("round", "round 3"), ("round", "round 4"), ("told x 0", "full:baaaaa"), ("counts", "4 10 0 0 4"))

    def test_a_crash_and_what_stands_on_the_disk_then(self):
        console = opened("open 2 8 4 0 none", X, "round")
        self.check(console, ("round 2", "crashed"))
        self.assertEqual(console.disk.content, X + "\ntoken x 0 b\ntoken x 0 a\n")
        self.assertEqual(console.disk.synced, len(X + "\ntoken x 0 b\n"))
        self.check(console, ("round", "error Dead"), ("crash 0 5", "lines 2"))
        self.assertEqual(console.disk.content, X + "\ntoken x 0 b\ntoken")
        self.assertIsNone(console.engine())
        self.check(console, ("round", "error NoEngine"), ("audit", "right"), ("open 1 9 4 0 none", "open 1"))
        self.assertEqual(console.disk.content, X + "\ntoken x 0 b\n")
        self.check(console, ("told x 0", "live:b"), ("round", "round 1"), ("told x 0", "live:ba"),
                   ("counts", "1 3 0 0 3"))

    def test_crashes_keep_lines(self):
        for keep, torn, left in [(0, 0, ""), (1, 0, "token x 0 b\n"), (0, 3, "tok"), (9, 0, "token x 0 b\ntoken y 0 a\n"),
                                 (1, 9999, "token x 0 b\ntoken y 0 a"), (9999, 9999, "token x 0 b\ntoken y 0 a\n")]:
            console = opened("open 2 9 40 0 none", X, Y)
            # Two places of x, a line, three places of y, a line; the sync is the eighth step.
            self.check(console, ("round 7", "crashed"),
                       (f"crash {keep} {torn}", f"lines {2 + left.count(chr(10))}"))
            self.assertEqual(console.disk.content, X + "\n" + Y + "\n" + left)
            self.assertEqual(console.disk.synced, len(console.disk.content))

    def test_cancelled_ones(self):
        console = opened("open 2 8 4 0 none", X, Y, "round")
        self.check(console, ("cancel y", "cancelled"), ("told y 0", "cancelled:"), ("cancel y", "nothing"),
                   ("cancel x", "cancelled"), ("told x 0", "cancelled:b"), ("standing", "2 0"))
        self.assertEqual(console.disk.lines()[-2:], ["cancel y", "cancel x"])

    def test_ends(self):
        console = opened("open 2 8 4 0 none")
        self.check(console, ("ask x ab 6 best 0 1 -1/--+", "taken"), ("round", "round 1"), ("told x 0", "live:b"),
                   ("round", "round 2"), ("told x 0", "end:b"), ("cancel x", "nothing"), ("audit", "right"))
        self.assertEqual(console.disk.lines()[-1], "token x 0 .")

    def test_copies(self):
        console = opened("open 2 12 9 0 none", "ask x ab 3 best 0 2 *", "round")
        self.check(console, ("told x 0", "live:b"), ("told x 1", "live:b"), ("told x 2", "error UnknownRun"))

    def test_refused_requests(self):
        console = opened("open 2 3 4 0 none")
        # The need of x is 4.
        self.check(console, (X, "refused"), ("told x 0", "error UnknownName"), ("ask x ab 5 best 0 1 *", "taken"))
        self.assertEqual(console.disk.content, "ask x ab 5 best 0 1 *\n")


class OpenTest(ConsoleTest):
    def test_the_settings_of_the_engine(self):
        for word, drafter in [("none", None), ("echo", Echo), ("foresight", Foresight), ("always:", Always),
                              ("always:ab", Always)]:
            console = Console(example_net())
            self.check(console, (f"open 5 60 40 3 {word}", "open 0"))
            engine = console.engine()
            self.assertIsInstance(engine, Engine)
            self.assertEqual((engine.page, engine.room, engine.budget, engine.guess), (5, 60, 40, 3))
            self.assertIs(engine.net, console.net)
            self.assertIs(engine.disk, console.disk)
            given = engine._turns._drafter
            self.assertEqual(given is None if drafter is None else isinstance(given, drafter), True)
            if drafter in (Echo, Foresight):
                self.assertEqual(given.most, 5)
            if drafter is Foresight:
                self.assertIs(given.net, console.net)
            if drafter is Always:
                self.assertEqual(given.tokens, (1, 2) if word.endswith("ab") else ())

    def test_what_drafters_guess(self):
        for word, worked in [("none", 2), ("echo", 2), ("foresight", 4), ("always:", 2), ("always:ba", 4),
                             ("always:aa", 4)]:
            console = opened(f"open 2 9 9 2 {word}", X, "round")
            self.assertEqual(console.say("counts").split(" ")[1], str(worked), word)

    def test_the_number_of_live_runs(self):
        disk = Disk("ask x ab 6 best 0 3 *\n" + Y + "\ntoken x 1 b\ncancel y\nask z a 1 best 0 2 *\ntoken z 1 a\n")
        console = Console(example_net(), disk)
        self.check(console, ("open 2 20 4 0 none", "open 4"), ("told z 1", "full:a"), ("told z 0", "live:"))
        self.assertIs(console.disk, disk)

    def test_another_engine_takes_its_place(self):
        console = opened("open 2 8 4 0 none", X, "round")
        first = console.engine()
        self.check(console, ("open 1 9 1 0 echo", "open 1"), ("counts", "0 0 0 0 0"), ("told x 0", "live:b"))
        self.assertIsNot(console.engine(), first)

    def test_settings_beyond_their_bounds(self):
        for settings in ["0 8 4 0", "6 8 4 0", "2 0 4 0", "2 61 4 0", "2 8 0 0", "2 8 41 0", "2 8 4 6", "9999 1 1 0",
                         "2 9999 4 0", "2 8 9999 0", "2 8 4 9999"]:
            console = Console(example_net())
            self.check(console, (f"open {settings} none", "error InvalidSetting"), ("counts", "error NoEngine"))

    def test_a_refused_open_leaves_the_present_engine(self):
        console = opened("open 2 8 4 0 none", X, "round")
        engine = console.engine()
        content = console.disk.content
        self.check(console, ("open 0 8 4 0 none", "error InvalidSetting"), ("open 2 3 4 0 none", "error TooSmall"))
        self.assertIs(console.engine(), engine)
        self.assertEqual(console.disk.content, content)
        self.check(console, ("counts", "1 2 0 0 1"), ("round", "round 2"))
        console.say("round 0")
        self.check(console, ("open 2 3 4 0 none", "error TooSmall"), ("counts", "error Dead"))
        self.assertIs(console.engine(), engine)
        self.assertTrue(engine.dead)

    def test_lines_that_cannot_stand(self):
        for content in ["rubbish\n", X + "\n" + X + "\n", "cancel x\n", X + "\ntoken x 1 b\n"]:
            console = Console(example_net(), Disk(content))
            self.check(console, ("open 2 8 4 0 none", "error InvalidLine"), ("counts", "error NoEngine"))
            self.assertEqual(console.disk.content, content)
        console = Console(example_net(), Disk("rubbish"))
        self.check(console, ("open 2 8 4 0 none", "open 0"))
        self.assertEqual(console.disk.content, "")


class ErrorsTest(ConsoleTest):
    def test_no_engine(self):
        for lines in [[], ["crash 0 0"], ["open 2 8 4 0 none", "crash 0 0"], ["open 0 1 1 1 none"], ["audit"]]:
            console = opened(*lines)
            self.check(console, *[(line, "error NoEngine") for line in NEED_ENGINE])
            self.assertIsNone(console.engine())
            self.check(console, ("audit", "right"), ("crash 3 4", "lines 0"))

    def test_a_dead_engine(self):
        console = opened("open 2 8 4 0 none", X)
        self.check(console, ("round 0", "crashed"))
        for _ in range(2):
            self.check(console, *[(line, "error Dead") for line in NEED_ENGINE + ["cancel z", "told z 7", Y]])
        self.assertTrue(console.engine().dead)
        self.check(console, ("audit", "right"), ("open 2 8 4 0 none", "open 1"), ("round", "round 1"))

    def test_names_and_runs(self):
        console = opened("open 2 8 4 0 none", X)
        self.check(console, ("cancel y", "error UnknownName"), ("told y 0", "error UnknownName"),
                   ("told x 1", "error UnknownRun"), ("told x 9999", "error UnknownRun"), ("told y 1", "error UnknownName"),
                   (X, "error Twice"), ("ask x a 1 best 0 1 *", "error Twice"), ("ask x ab 16 best 0 4 *", "error Twice"),
                   ("told x 0", "live:"), ("told x 1", "error UnknownRun"))
        self.check(console, ("cancel x", "cancelled"), (X, "error Twice"))

    def test_sixteen_requests(self):
        console = opened("open 5 60 4 0 none")
        for letter in "abcdefghijklmnop":
            self.check(console, (f"ask {letter} a 1 best 0 1 *", "taken"))
        self.check(console, ("ask q a 1 best 0 1 *", "error TooMany"), ("ask a a 1 best 0 1 *", "error Twice"),
                   ("told q 0", "error UnknownName"))

    def test_stops(self):
        # The round has two places, a line and a sync: four steps.
        for stop in range(4):
            console = opened("open 2 8 4 0 none", X)
            self.check(console, (f"round {stop}", "crashed"), (f"round {stop}", "error Dead"))
            self.assertEqual(len(console.disk), 2 if stop == 3 else 1)
        for stop in (4, 5, 9999):
            console = opened("open 2 8 4 0 none", X)
            self.check(console, (f"round {stop}", "round 1"), ("told x 0", "live:b"))


class FormTest(ConsoleTest):
    """Lines of no form are unknown, whatever the state."""

    def states(self):
        dead = opened("open 2 8 4 0 none", X, "round 0")
        return [Console(example_net()), opened("open 2 8 4 0 none", X), dead, opened("open 2 8 4 0 none", "crash 0 0")]

    def unknown(self, *lines):
        for console in self.states():
            content = console.disk.content
            engine = console.engine()
            for line in lines:
                self.check(console, (line, "unknown"))
            self.assertEqual(console.disk.content, content)
            self.assertIs(console.engine(), engine)

    def test_rubbish(self):
        self.unknown("", " ", "rubbish", "OPEN 2 8 4 0 none", "Round", "error", "unknown", "> round", "round.", "ask",
                     "ask ", "open", "told", "cancel", "crash", "x", "token x 0 b", "~", "!")

    def test_words_too_many_or_too_few(self):
        whole = ["open 2 8 4 0 none", "open 2 8 4 0 always:ab", "cancel x", "round", "round 3", "crash 0 0", "told x 0",
                 "standing", "counts", "audit", X]
        for line in whole:
            words = line.split(" ")
            wrong = [line + " ", " " + line, line + " 0 0", line + " x", line.replace(" ", "  ", 1) + " ",
                     " ".join(words[:-1] + ["", words[-1]])]
            if len(words) > 1:
                wrong += [line.replace(" ", "  ", 1), line.replace(" ", "", 1)]
                if line != "round 3":
                    wrong.append(" ".join(words[:-1]))
            if line != "round":
                wrong.append(line + " 0")
            self.unknown(*wrong)

    def test_numbers(self):
        forms = ["open {} 8 4 0 none", "open 2 {} 4 0 none", "open 2 8 {} 0 none", "open 2 8 4 {} none", "round {}",
                 "crash {} 0", "crash 0 {}", "told x {}"]
        for form in forms:
            self.unknown(*[form.format(word) for word in
                           ["00", "01", "007", "-1", "+1", "-0", "10000", "99999", "12345678901234567890", "", "a", "1a",
                            "1.0", "0x1", "1_0", "none", "*"]])
        console = Console(example_net())
        self.check(console, ("crash 9999 9999", "lines 0"), ("crash 0 0", "lines 0"), ("round 9999", "error NoEngine"),
                   ("round 0", "error NoEngine"), ("told x 9999", "error NoEngine"),
                   ("open 9999 8 4 0 none", "error InvalidSetting"))

    def test_names(self):
        for name in ["", "X", "x1", "abcdefghi", "a-b", "1", "x,", "xY"]:
            self.unknown(f"cancel {name}", f"told {name} 0", f"ask {name} ab 6 best 0 1 *")
        console = Console(example_net())
        self.check(console, ("cancel abcdefgh", "error NoEngine"), ("told abcdefgh 0", "error NoEngine"))

    def test_drafters(self):
        self.unknown(*[f"open 2 8 4 0 {word}" for word in
                       ["", "None", "echo:", "foresight:ab", "always", "always:.", "always:ab.", "always:c", "always:a:b",
                        "Always:ab", "always:ab ", "nones", "always: ", "echos", "always:12"]])

    def test_drafters_of_other_nets(self):
        net = Net.read(EXAMPLE.replace("net .ab", "net :.a"))
        console = Console(net)
        self.check(console, ("open 2 8 4 0 always::", "unknown"), ("open 2 8 4 0 always:.a", "open 0"),
                   ("open 2 8 4 0 always:", "open 0"), ("open 2 8 4 0 always:ab", "unknown"))

    def test_ask_lines(self):
        self.unknown("ask x ab 6 best 0 1", "ask x ab 17 best 0 1 *", "ask x ab 0 best 0 1 *", "ask x a. 6 best 0 1 *",
                     "ask x ac 6 best 0 1 *", "ask x ab 6 worst 0 1 *", "ask x ab 6 draw 10000 1 *",
                     "ask x ab 6 best 0 0 *", "ask x ab 6 best 0 5 *", "ask x ab 6 best 0 1 -", "ask x ab 6 best 0 1 0+",
                     "ask x ab 1 best 0 1 1-/2-/--+", "ask x ab 6 best 0 1 --", "ask x  6 best 0 1 *",
                     "ask x aaaaaaaaaaaaaaaaa 6 best 0 1 *", "ask x ab 06 best 0 1 *", "ask x ab 6 best 00 1 *")

    def test_each_form_counts_in_each_state(self):
        right = NEED_ENGINE + ["audit", "crash 0 0", "open 2 8 4 0 none"]
        for line in right:
            for console in self.states():
                self.assertNotEqual(console.say(line), "unknown")


class AuditTest(ConsoleTest):
    def test_wrong_lines(self):
        for content, answer in [("", "right"), (X + "\n", "right"), (X + "\nrubbish", "right"),
                                (X + "\nrubbish\n", "wrong 1 form"), (X + "\ntoken x 0 a\n", "wrong 1 token"),
                                (X + "\ncancel x\ntoken x 0 b\n", "wrong 2 late"), ("cancel x\n", "wrong 0 name"),
                                (X + "\n" + X + "\n", "wrong 1 double"), (X + "\ntoken x 3 b\n", "wrong 1 run"),
                                ("rubbish", "right")]:
            console = Console(example_net(), Disk(content))
            self.check(console, ("audit", answer))
            self.assertEqual(console.disk.content, content)

    def test_many(self):
        lines = [f"ask {letter} a 1 best 0 1 *\n" for letter in "abcdefghijklmnopq"]
        self.check(Console(example_net(), Disk("".join(lines))), ("audit", "wrong 16 many"))

    def test_unsynced_lines_count_too(self):
        console = opened("open 2 8 4 0 none", X, "round 3")
        self.assertLess(console.disk.synced, len(console.disk.content))
        self.check(console, ("audit", "right"))
        console.disk.write("token x 0 b")
        self.check(console, ("audit", "wrong 2 token"))

    def test_a_wrong_journal_is_opened_all_the_same(self):
        console = Console(example_net(), Disk(X + "\ntoken x 0 a\n"))
        self.check(console, ("audit", "wrong 1 token"), ("open 2 8 4 0 none", "open 1"), ("told x 0", "live:a"))


class MembersTest(ConsoleTest):
    def test_attributes(self):
        net, disk = example_net(), Disk("rubbish")
        console = Console(net, disk)
        self.assertIs(console.net, net)
        self.assertIs(console.disk, disk)
        console = Console(net=net, disk=None)
        self.assertIsInstance(console.disk, Disk)
        self.assertEqual((console.disk.content, console.engine()), ("", None))
        self.assertIsNot(Console(net).disk, Console(net).disk)

    def test_calling_it_does_the_same(self):
        console, other = Console(example_net()), Console(example_net())
        for line in ["open 2 8 4 0 none", X, "round", "rubbish", "told x 0", "counts", "crash 0 0"]:
            self.assertEqual(console(line), other.say(line))
        self.assertEqual(console.log(), other.log())
        self.assertEqual(console(line="audit"), other.say(line="audit"))
        self.assertEqual(len(console), 8)

    def test_log_and_len(self):
        console = Console(example_net())
        self.assertEqual((console.log(), len(console), bool(console), repr(console)), ([], 0, True, "Console(0 lines)"))
        pairs = [("rubbish", "unknown"), ("round", "error NoEngine"), ("open 2 8 4 0 none", "open 0"), ("", "unknown"),
                 (X, "taken"), ("round 0", "crashed"), ("round", "error Dead"), ("crash 0 0", "lines 1")]
        for at, (line, answer) in enumerate(pairs, 1):
            self.check(console, (line, answer))
            self.assertEqual((len(console), repr(console)), (at, f"Console({at} lines)"))
            self.assertEqual(console.log(), pairs[:at])
            # A told list may be spoilt.
            console.log().clear()
            console.log().append("rubbish")
        self.assertIsInstance(console.log(), list)
        self.assertTrue(all(isinstance(pair, tuple) for pair in console.log()))

    def test_written(self):
        console = opened("open 2 8 4 0 none", "", "told x 0")
        self.assertEqual(console.written(),
                         "> open 2 8 4 0 none\n< open 0\n> \n< unknown\n> told x 0\n< error UnknownName\n")
        self.assertEqual(Console(example_net()).written(), "")

    def test_busy(self):
        seen = []

        def weights(text):
            seen.append(console.busy)
            return [0, 1, 1]

        net = RecordingNet(".ab", weights)
        net.numbers = example_net().numbers
        net.characters = example_net().characters
        console = Console(net)
        self.assertIs(console.busy, False)
        self.check(console, ("open 2 8 4 0 none", "open 0"), (X, "taken"), ("round", "round 1"))
        self.assertEqual(seen, [True])

    def test_busy_whatever_happened(self):
        def weights(text):
            raise KeyError("weights")

        net = RecordingNet(".ab", weights)
        net.numbers = example_net().numbers
        console = Console(net)
        for line in ["open 2 8 4 0 none", X]:
            console.say(line)
        for say in (console.say, console):
            with self.assertRaises(KeyError):
                say("round")
            self.assertIs(console.busy, False)
        self.assertEqual(len(console), 2)
        with self.assertRaises(Exception):
            console.say(None)
        self.assertIs(console.busy, False)

    def test_the_disk_is_shared_with_the_caller(self):
        disk = Disk()
        console = opened("open 2 8 4 0 none", X, disk=disk)
        self.assertEqual(disk.lines(), [X])
        console.say("crash 0 0")
        engine = Engine(example_net(), disk)
        engine.finish()
        self.check(console, ("open 2 8 4 0 none", "open 0"), ("told x 0", "full:baaaaa"), ("audit", "right"))


class EngineTest(ConsoleTest):
    """A console answers as an engine with the same calls does."""

    def test_made_up_lines(self):
        draw = random.Random(1)
        for _ in range(60):
            net = example_net()
            console = Console(net)
            page, room, budget, guess = draw.randint(1, 4), draw.randint(4, 20), draw.randint(1, 9), draw.randint(0, 3)
            word, drafter = draw.choice([("none", None), ("echo", Echo()), ("foresight", Foresight(net)),
                                         ("always:aa", Always(1, 1))])
            self.check(console, (f"open {page} {room} {budget} {guess} {word}", "open 0"))
            engine = Engine(net, Disk(), page=page, room=room, budget=budget, guess=guess, drafter=drafter)
            for name in "abc":
                request = Request(name, [draw.randint(1, 2) for _ in range(3)], draw.randint(1, 6), knob="draw",
                                  seed=draw.randint(0, 9999), copies=draw.randint(1, 2))
                self.check(console, (request.entry(".ab"), "taken" if engine.submit(request) else "refused"))
            for at in itertools.count(1):
                told = engine.advance()
                self.check(console, ("round", f"round {at}"), ("standing", f"{len(engine.pages())} {len(engine.tails())}"))
                self.check(console, ("counts", f"{engine.rounds} {engine.worked} {engine.reused} {engine.suspended} "
                                               f"{engine.peak}"), ("audit", "right"))
                for name, run, _ in told:
                    answer = engine.delivered(name, run)
                    self.check(console, (f"told {name} {run}", f"{answer.why}:{net.characters(answer.tokens)}"))
                self.assertEqual(console.disk.content, engine.disk.content)
                if not engine.live():
                    break
            self.assertTrue(audit(net, console.disk.content))


if __name__ == "__main__":
    unittest.main()
