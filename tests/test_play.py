"""The text of a console, played again: [41]."""

import random
import unittest

from answersalone.console import Console, play
from answersalone.disk import Disk
from answersalone.errors import InvalidText

from samples import example_net, some_net, some_request
from standin import odd_values, RecordingNet

LINES = [
    "open 2 8 4 0 none", "ask x ab 6 best 0 1 *", "rubbish", "round", "told x 0", "", "ask y aab 6 draw 7 2 *", "round 3",
    "round", "crash 1 4", "audit", "open 1 20 9 2 foresight", "standing", "counts", "cancel x", "round", "told y 1", "> x",
    "audit", "open 0 1 1 1 none",
]


def console_of(net, lines):
    console = Console(net)
    for line in lines:
        console.say(line)
    return console


def text_of(pairs):
    return "".join(f"> {line}\n< {answer}\n" for line, answer in pairs)


class SameAnswersTest(unittest.TestCase):
    def test_each_beginning_in_pairs(self):
        net = example_net()
        console = console_of(net, LINES)
        pairs = console.log()
        self.assertEqual(text_of(pairs), console.written())
        for many in range(len(pairs) + 1):
            self.assertIsNone(play(net, text_of(pairs[:many])))
        self.assertEqual(console.log(), pairs)

    def test_no_line(self):
        self.assertIsNone(play(example_net(), ""))

    def test_made_up_consoles(self):
        draw = random.Random(1)
        for _ in range(25):
            net = some_net(draw, tokens=3, width=2, layers=1)
            console = Console(net)
            names = draw.sample("abcdefgh", 4)
            for _ in range(30):
                request = some_request(draw, draw.choice(names), 3)
                console.say(draw.choice([
                    f"open {draw.randint(0, 3)} {draw.randint(8, 20)} {draw.randint(1, 9)} {draw.randint(0, 3)} "
                    f"{draw.choice(['none', 'echo', 'foresight', 'always:' + net.tokens[1:]])}",
                    request.entry(net.tokens), "round", "round", "round", f"round {draw.randint(0, 9)}",
                    f"crash {draw.randint(0, 2)} {draw.randint(0, 9)}", f"told {draw.choice(names)} {draw.randint(0, 2)}",
                    "standing", "counts", "audit", f"cancel {draw.choice(names)}", "rubbish", "",
                ]))
            self.assertIsNone(play(net, console.written()))

    def test_a_console_on_a_disk_that_was_not_empty(self):
        console = Console(example_net(), Disk("ask x ab 6 best 0 1 *\n"))
        console.say("audit")
        console.say("open 2 8 4 0 none")
        self.assertEqual(console.log()[1], ("open 2 8 4 0 none", "open 1"))
        # The text is played on a new disk.
        self.assertEqual(play(example_net(), console.written()), 1)


class ChangedAnswersTest(unittest.TestCase):
    def test_the_least_index_of_a_changed_answer(self):
        net = example_net()
        pairs = console_of(net, LINES).log()
        for at, (line, answer) in enumerate(pairs):
            for changed in [answer + " ", answer + "x", "", " " + answer, answer[:-1], "< " + answer]:
                spoilt = pairs[:at] + [(line, changed)] + pairs[at + 1:]
                self.assertEqual(play(net, text_of(spoilt)), at)
                self.assertEqual(play(net=net, text=text_of(spoilt[:at + 1])), at)
                twice = [(given, told + "!") if later > at else (given, told)
                         for later, (given, told) in enumerate(spoilt)]
                self.assertEqual(play(net, text_of(twice)), at)

    def test_changed_lines(self):
        net = example_net()
        pairs = console_of(net, LINES).log()
        spoilt = [pairs[0], (pairs[1][0].replace(" ab ", " ba "), "taken")] + pairs[2:]
        self.assertEqual(play(net, text_of(spoilt)), 4)
        self.assertEqual(play(net, text_of(pairs[1:])), 0)

    def test_another_net(self):
        text = console_of(example_net(), LINES).written()
        other = some_net(random.Random(3), tokens=3)
        self.assertEqual(play(other, text), 1)


class WrongTextTest(unittest.TestCase):
    def check(self, text, line):
        with self.assertRaises(InvalidText) as caught:
            play(example_net(), text)
        self.assertEqual(caught.exception.line, line, text)

    def test_lines_that_cannot_stand(self):
        for text, line in [
            ("\n", 0), ("round\n", 0), (">round\n< x\n", 0), ("> round\n> x\n", 1), ("< round\n> x\n", 0),
            ("> round\n<x\n", 1), ("> round\n<\n", 1), (">\n< x\n", 0), ("> a\n< unknown\n\n", 2),
            ("> a\n< unknown\nx\n< y\n", 2), ("> a\n< unknown\n< b\n> c\n", 2), (" > a\n< b\n", 0),
            ("> a\n< b\n> c\n> d\n< e\n", 3), ("> a\n\n< b\n", 1),
        ]:
            self.check(text, line)

    def test_the_text_ends_within_a_pair(self):
        for text, line in [("> a\n", 1), ("> a\n< unknown\n> b\n", 3), ("> \n", 1)]:
            self.check(text, line)

    def test_characters_behind_the_last_line_feed(self):
        for text, line in [("> a", 0), (">", 0), ("x", 0), ("> a\n< unknown", 1), ("> a\n<", 1), ("> a\n< unknown\n>", 2),
                           ("> a\n< unknown\n> b", 2), ("> a\n< unknown\n> b\n< c\nrubbish", 4), (" ", 0),
                           ("> a\n< unknown\n> b\n< ", 3)]:
            self.check(text, line)

    def test_any_characters_behind_the_marks(self):
        net = example_net()
        for line in ["", " ", "> ", "< ", "> > <", "round", "~!@#$^&*", "a" * 3000]:
            for answer in ["", " ", "> ", "< ", "unknown ", "~" * 3000]:
                told = play(net, f"> {line}\n< {answer}\n")
                self.assertEqual(told, 0)
        self.assertIsNone(play(net, "> > a\n< unknown\n> < \n< unknown\n"))

    def test_each_piece_of_a_text(self):
        text = console_of(example_net(), LINES).written()
        for at in range(len(text)):
            feeds = text[:at].count("\n")
            piece = text[:at]
            if piece.endswith("\n") and feeds % 2 == 0 or not piece:
                self.assertIsNone(play(example_net(), piece))
            else:
                self.check(piece, feeds)

    def test_values_that_are_no_strings(self):
        for value in odd_values() + [0, 3, ["> a", "< unknown"], ("> a\n< unknown\n",), Console(example_net())]:
            self.check(value, 0)

    def test_the_whole_text_is_looked_at_before_a_line_is_given(self):
        asked = []

        def weights(text):
            asked.append(text)
            return [0, 1, 1]

        net = RecordingNet(".ab", weights)
        net.numbers = example_net().numbers
        net.characters = example_net().characters
        lines = "> open 2 8 4 0 none\n< open 0\n> ask x ab 6 best 0 1 *\n< taken\n> round\n< round 1\n"
        for wrong in ["rubbish\n", "> a\n", "> a\n> b\n", "x"]:
            with self.assertRaises(InvalidText):
                play(net, lines + wrong)
        # Also where an answer is another one ahead of it.
        with self.assertRaises(InvalidText) as caught:
            play(net, "> a\n< b\n" + lines + ">")
        self.assertEqual(caught.exception.line, 8)
        self.assertEqual(asked, [])
        self.assertIsNone(play(net, lines))
        self.assertEqual(len(asked), 1)


if __name__ == "__main__":
    unittest.main()
