"""Engines that go on from a disk: [34]."""

import itertools
import unittest

from answersalone.answers import Answer
from answersalone.disk import Disk
from answersalone.drafters import Always
from answersalone.engine import Engine
from answersalone.errors import Crashed, InvalidLine, InvalidSetting, TooSmall
from answersalone.plain import plain_answer
from answersalone.requests import Request

from samples import example_net

X = Request("x", [1, 2], 6)
Y = Request("y", [1, 1, 2], 6)
ASKS = "ask x ab 6 best 0 1 *\nask y aab 6 best 0 2 *\n"


def disk_of(synced, *lines):
    disk = Disk(synced)
    for line in lines:
        disk.write(line)
    return disk


class RecoveryTest(unittest.TestCase):
    def test_an_empty_disk(self):
        disk = Disk()
        engine = Engine(example_net(), disk)
        self.assertEqual((engine.names(), engine.live(), disk.content, disk.synced), ([], [], "", 0))

    def test_what_the_disk_tells(self):
        content = ASKS + "token y 1 a\ntoken x 0 b\ntoken x 0 a\ncancel y\nask z a 1 draw 7 3 *\ntoken z 1 .\n"
        disk = Disk(content)
        engine = Engine(example_net(), disk, room=12)
        self.assertEqual(engine.names(), ["x", "y", "z"])
        self.assertEqual(engine.live(), [("x", 0), ("z", 0), ("z", 2)])
        self.assertEqual(engine.delivered("x"), Answer([2, 1]))
        self.assertEqual([engine.delivered("y", run) for run in range(2)],
                         [Answer([], "cancelled"), Answer([1], "cancelled")])
        self.assertEqual([engine.status("z", run) for run in range(3)], ["waiting", "ended", "waiting"])
        self.assertEqual([engine.status("x"), engine.status("y", 1)], ["waiting", "cancelled"])
        self.assertEqual((disk.content, disk.synced), (content, len(content)))
        self.assertEqual(
            (engine.rounds, engine.worked, engine.reused, engine.suspended, engine.peak, engine.standing), (0,) * 6)
        self.assertEqual((engine.pages(), engine.tails(), len(engine), "z" in engine), ([], [], 3, True))
        self.assertEqual(repr(engine), "Engine(3 requests, round 0)")

    def test_a_whole_text_is_worked_again(self):
        engine = Engine(example_net(), Disk("ask x ab 6 best 0 1 *\ntoken x 0 b\ntoken x 0 a\n"), budget=9)
        self.assertEqual(engine.advance(), [("x", 0, 1)])
        self.assertEqual((engine.worked, engine.held("x")), (4, 4))
        engine.finish()
        self.assertEqual(engine.delivered("x"), plain_answer(example_net(), X))

    def test_a_torn_line_is_trimmed(self):
        for torn in ["token x 0", "t", "rubbish", "token x 0 b", " ", "ask x"]:
            disk = Disk(ASKS + torn)
            engine = Engine(example_net(), disk)
            self.assertEqual((disk.content, disk.synced), (ASKS, len(ASKS)))
            self.assertEqual(engine.delivered("x"), Answer())
        disk = Disk("ask x ab 6 best 0 1 *")
        self.assertEqual(Engine(example_net(), disk).names(), [])
        self.assertEqual((disk.content, disk.synced), ("", 0))

    def test_lines_that_are_not_synced_count_and_are_synced(self):
        disk = disk_of(ASKS, "token x 0 b", "cancel y")
        self.assertEqual(disk.synced, len(ASKS))
        engine = Engine(example_net(), disk)
        self.assertEqual(disk.synced, len(disk.content))
        self.assertEqual((engine.delivered("x"), engine.live()), (Answer([2]), [("x", 0)]))

    def test_a_wrong_line(self):
        for content, line, why in [
            ("rubbish\n", 0, "form"), (ASKS + "\n", 2, "form"), (ASKS + "ask x a 1 best 0 1 *\n", 2, "double"),
            (ASKS + "token z 0 b\ntorn", 2, "name"), (ASKS + "token x 1 b\n", 2, "run"),
            (ASKS + "cancel x\ncancel x\n", 3, "late"), ("ask x c 1 best 0 1 *\n", 0, "form"),
        ]:
            for disk in [Disk(content), disk_of("", *content.split("\n")[:-1]), Disk(content + "to")]:
                before = (disk.content, disk.synced)
                with self.assertRaises(InvalidLine) as caught:
                    Engine(example_net(), disk, room=1)
                self.assertEqual((caught.exception.line, caught.exception.why), (line, why))
                self.assertEqual((disk.content, disk.synced), before)

    def test_too_many_requests(self):
        lines = [f"ask {name} a 1 best 0 1 *" for name in "abcdefghijklmnopq"]
        with self.assertRaises(InvalidLine) as caught:
            Engine(example_net(), Disk("".join(line + "\n" for line in lines)))
        self.assertEqual((caught.exception.line, caught.exception.why), (16, "many"))

    def test_a_room_that_is_too_small(self):
        # The need of x for the page length 2 is 4, that of both runs of y is 7.
        for room, name in [(1, "x"), (3, "x"), (4, "y"), (6, "y")]:
            disk = disk_of(ASKS, "token x 0 b")
            before = (disk.content, disk.synced)
            with self.assertRaises(TooSmall) as caught:
                Engine(example_net(), disk, page=2, room=room)
            self.assertEqual(caught.exception.name, name)
            self.assertEqual((disk.content, disk.synced), before)
        self.assertEqual(Engine(example_net(), Disk(ASKS), page=2, room=7).live(), [("x", 0), ("y", 0), ("y", 1)])

    def test_the_disk_of_a_refused_engine_stays_torn(self):
        disk = Disk(ASKS + "token")
        for settings in [{"room": 3}, {"room": 0}, {"page": 9, "room": 3}]:
            with self.assertRaises((TooSmall, InvalidSetting)):
                Engine(example_net(), disk, **settings)
            self.assertEqual((disk.content, disk.synced), (ASKS + "token", len(ASKS) + 5))

    def test_requests_that_are_not_live_need_no_room(self):
        over = ASKS + "cancel x\ntoken y 0 .\n"
        with self.assertRaises(TooSmall) as caught:
            Engine(example_net(), Disk(over), room=1)
        self.assertEqual(caught.exception.name, "y")
        self.assertEqual(Engine(example_net(), Disk(over + "token y 1 .\n"), room=1).names(), ["x", "y"])

    def test_the_order_of_the_errors(self):
        with self.assertRaises(InvalidSetting):
            Engine(example_net(), Disk("rubbish\n"), guess=9)
        with self.assertRaises(InvalidLine):
            Engine(example_net(), Disk(ASKS + "rubbish\n"), room=1)

    def test_other_settings(self):
        plain = [plain_answer(example_net(), X), plain_answer(example_net(), Y)]
        settings = [
            {"page": 2, "room": 7, "budget": 3}, {"page": 1, "room": 13, "budget": 1, "drafter": Always(1, 1), "guess": 2},
            {"page": 5, "room": 4, "budget": 40}, {"page": 3, "room": 60, "budget": 7, "drafter": Always(2, 1), "guess": 5},
        ]
        for first, then in itertools.product(settings, repeat=2):
            disk = Disk()
            engine = Engine(example_net(), disk, **first)
            engine.submit(X)
            engine.submit(Y.changed(copies=2, most=5))
            engine.finish(2)
            for stop in range(4):
                try:
                    engine.advance(stop=stop)
                except Crashed:
                    disk.fall(stop % 2, stop)
                engine = Engine(example_net(), disk, **then)
            engine.finish()
            self.assertEqual(engine.delivered("x"), plain[0])
            for run in range(2):
                self.assertEqual(engine.delivered("y", run).tokens, plain[1].tokens[:5])

    def test_an_engine_on_the_disk_of_one_that_is_not_used_any_more(self):
        disk = Disk()
        first = Engine(example_net(), disk)
        first.submit(X)
        first.finish(3)
        second = Engine(example_net(), disk, page=1)
        self.assertEqual(second.delivered("x"), Answer([2, 1, 1]))
        self.assertEqual(second.finish(), 4)
        self.assertEqual(second.delivered("x"), plain_answer(example_net(), X))

    def test_submitting_behind_a_recovery(self):
        engine = Engine(example_net(), Disk("ask x ab 6 best 0 1 *\n"), room=20, budget=9)
        engine.submit(Y)
        self.assertEqual(engine.advance(), [("x", 0, 2), ("y", 0, 1)])
        self.assertEqual(engine.names(), ["x", "y"])


if __name__ == "__main__":
    unittest.main()
