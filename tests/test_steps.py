"""Steps and crashes, and engines that are dead: [28], [33]."""

import random
import unittest

from answersalone.disk import Disk
from answersalone.drafters import Always, Foresight
from answersalone.engine import Engine
from answersalone.errors import Crashed, Dead, InvalidSetting
from answersalone.journal import Journal
from answersalone.plain import plain_answer
from answersalone.requests import Request

from samples import example_net, some_net, some_request
from standin import odd_values

X = Request("x", [1, 2], 6)
Y = Request("y", [1, 1, 2], 6)


class Tape:
    """The steps that were done, in order."""

    def __init__(self):
        self.steps = []


class TapedDisk(Disk):
    """A disk that puts its writes and syncs on a tape."""

    def __init__(self, tape, content=""):
        Disk.__init__(self, content)
        self.tape = tape

    def write(self, line):
        self.tape.steps.append(("write", line))
        Disk.write(self, line)

    def sync(self):
        self.tape.steps.append("sync")
        Disk.sync(self)


class TapedNet:
    """A net that puts the places that it works on a tape."""

    def __init__(self, tape, net):
        self.tape = tape
        self.net = net
        self.tokens = net.tokens

    def place(self, kept, token):
        self.tape.steps.append(("place", len(kept), token))
        return self.net.place(kept, token)

    def weights(self, row):
        return self.net.weights(row)


def taped_engine(net, requests, rounds, **settings):
    """An engine with a tape, on which nothing stands yet, behind some requests and rounds."""
    tape = Tape()
    engine = Engine(TapedNet(tape, net), TapedDisk(tape), **settings)
    for request in requests:
        engine.submit(request)
    for _ in range(rounds):
        engine.advance()
    tape.steps.clear()
    return engine, tape


def disk_behind(content, synced, steps):
    """The content and the number of synced characters behind some steps."""
    for step in steps:
        if step == "sync":
            synced = len(content)
        elif step[0] == "write":
            content += step[1] + "\n"
    return content, synced


def methods(engine):
    """Calls of all methods of an engine, each with right and with wrong arguments."""
    def first(story):
        return next(story, None)

    return [
        lambda: engine.submit(Request("z", [1], 1)), lambda: engine.submit(None, stop="no"), lambda: engine.submit(X),
        lambda: engine.cancel("x"), lambda: engine.cancel(None, stop="no"), lambda: engine.cancel("x", stop=0),
        lambda: engine.advance(), lambda: engine.advance(stop="no"), lambda: engine.advance(stop=0),
        lambda: first(engine.story()), lambda: first(engine.story(0)), lambda: list(engine.story(3)),
        lambda: engine.finish(), lambda: engine.finish(0),
        lambda: engine.delivered("x"), lambda: engine.delivered(None), lambda: engine.delivered("x", 9),
        lambda: engine.status("x"), lambda: engine.status("nobody"), lambda: engine.status("x", None),
        lambda: engine.held("x"), lambda: engine.held("nobody"), lambda: engine.held("x", None),
        lambda: engine.names(), lambda: engine.live(), lambda: engine.pages(), lambda: engine.tails(),
    ]


class CrashingCase(unittest.TestCase):
    def check_each_stop(self, call, net, requests, rounds, **settings):
        """Does a call with each stop; returns its steps and what it told."""
        engine, tape = taped_engine(net, requests, rounds, **settings)
        before = engine.disk.content
        self.assertEqual(engine.disk.synced, len(before))
        told = call(engine, None)
        steps = list(tape.steps)
        after = (engine.disk.content, engine.disk.synced, engine.worked, engine.pages(), engine.tails(), engine.live())
        for stop in range(len(steps) + 3):
            engine, tape = taped_engine(net, requests, rounds, **settings)
            if stop >= len(steps):
                self.assertEqual(call(engine, stop), told)
                self.assertEqual(tape.steps, steps)
                self.assertIs(engine.dead, False)
                self.assertEqual((engine.disk.content, engine.disk.synced, engine.worked, engine.pages(),
                                  engine.tails(), engine.live()), after)
                continue
            with self.assertRaises(Crashed) as caught:
                call(engine, stop)
            self.assertEqual(caught.exception.stop, stop)
            self.assertEqual(tape.steps, steps[:stop])
            self.assertIs(engine.dead, True)
            self.assertEqual((engine.disk.content, engine.disk.synced),
                             disk_behind(before, len(before), steps[:stop]))
            for method in methods(engine):
                with self.assertRaises(Dead):
                    method()
            self.assertEqual(tape.steps, steps[:stop])
        return steps, told


class StepsTest(CrashingCase):
    def test_submit(self):
        steps, told = self.check_each_stop(
            lambda engine, stop: engine.submit(Y, stop=stop), example_net(), [X], 1)
        self.assertEqual((steps, told), ([("write", "ask y aab 6 best 0 1 *"), "sync"], True))

    def test_a_submit_that_is_not_taken_has_no_steps(self):
        steps, told = self.check_each_stop(
            lambda engine, stop: engine.submit(Y.changed(copies=4), stop=stop), example_net(), [X], 1)
        self.assertEqual((steps, told), ([], False))

    def test_cancel(self):
        steps, told = self.check_each_stop(
            lambda engine, stop: engine.cancel("x", stop=stop), example_net(), [X, Y], 2)
        self.assertEqual((steps, told), ([("write", "cancel x"), "sync"], True))

    def test_a_cancel_without_a_live_request_has_no_steps(self):
        steps, told = self.check_each_stop(
            lambda engine, stop: engine.cancel("x", stop=stop), example_net(), [X], 6)
        self.assertEqual((steps, told), ([], False))

    def test_a_round(self):
        steps, told = self.check_each_stop(
            lambda engine, stop: engine.advance(stop=stop), example_net(), [X, Y], 0, room=8, budget=4)
        self.assertEqual(steps, [
            ("place", 0, 1), ("place", 1, 2), ("write", "token x 0 b"), ("place", 0, 1), ("place", 1, 1), "sync",
        ])
        self.assertEqual(told, [("x", 0, 2)])

    def test_a_round_without_lines_is_a_sync(self):
        steps, told = self.check_each_stop(lambda engine, stop: engine.advance(stop=stop), example_net(), [], 0)
        self.assertEqual((steps, told), (["sync"], []))
        steps, told = self.check_each_stop(
            lambda engine, stop: engine.advance(stop=stop), example_net(), [X], 0, budget=1)
        self.assertEqual((steps, told), ([("place", 0, 1), "sync"], []))

    def test_a_round_with_drafts(self):
        steps, told = self.check_each_stop(
            lambda engine, stop: engine.advance(stop=stop), example_net(), [X], 0, budget=9,
            drafter=Always(2, 1, 2), guess=3)
        self.assertEqual(steps, [
            ("place", 0, 1), ("place", 1, 2), ("place", 2, 2), ("place", 3, 1), ("place", 4, 2),
            ("write", "token x 0 b"), ("write", "token x 0 a"), ("write", "token x 0 a"), "sync",
        ])
        self.assertEqual(told, [("x", 0, 2), ("x", 0, 1), ("x", 0, 1)])

    def test_a_round_with_copies_and_ends(self):
        draw = random.Random(4)
        net = some_net(draw, tokens=3, greatest=1)
        requests = [some_request(draw, "x", 3, copies=3, most=4), some_request(draw, "y", 3, copies=2, most=3)]
        for rounds in range(4):
            steps, _ = self.check_each_stop(
                lambda engine, stop: engine.advance(stop=stop), net, requests, rounds, page=2, room=20, budget=20,
                drafter=Foresight(net), guess=2)
            self.assertEqual(steps.count("sync"), 1)
            self.assertEqual(steps[-1], "sync")

    def test_the_printed_example(self):
        engine = Engine(example_net(), Disk(), page=2, room=8, budget=4)
        engine.submit(Request("x", [1, 2], 6))
        with self.assertRaises(Crashed) as caught:
            engine.advance(stop=3)
        self.assertEqual(caught.exception.stop, 3)
        self.assertEqual(engine.disk.content, "ask x ab 6 best 0 1 *\ntoken x 0 b\n")
        self.assertEqual(engine.disk.synced, 22)

    def test_a_stop_is_for_its_own_call_alone(self):
        engine = Engine(example_net(), Disk())
        engine.submit(X, stop=2)
        engine.advance(stop=4)
        self.assertEqual([engine.advance(stop=3) for _ in range(4)], [[("x", 0, 1)]] * 4)
        engine.submit(Y, stop=2)
        self.assertEqual(engine.finish(), 6)
        self.assertIs(engine.dead, False)

    def test_an_invalid_stop_does_not_crash(self):
        engine = Engine(example_net(), Disk())
        engine.submit(X)
        for stop in [-1, 10 ** 9] + odd_values()[1:]:
            with self.assertRaises(InvalidSetting):
                engine.advance(stop=stop)
        self.assertIs(engine.dead, False)
        self.assertEqual(engine.advance(stop=999999999), [("x", 0, 2)])

    def test_a_story_of_an_engine_that_dies(self):
        engine = Engine(example_net(), Disk())
        engine.submit(X)
        story = engine.story()
        next(story)
        with self.assertRaises(Crashed):
            engine.advance(stop=0)
        with self.assertRaises(Dead):
            next(story)


class DeliveredTest(unittest.TestCase):
    def test_what_is_synced_is_a_beginning_at_each_step(self):
        net = example_net()
        plain = {"x": plain_answer(net, X), "y": plain_answer(net, Y)}
        for rounds in range(7):
            for stop in range(12):
                engine = Engine(net, Disk(), page=2, room=4, budget=5, drafter=Always(1, 1), guess=2)
                engine.submit(X)
                engine.submit(Y)
                engine.finish(rounds)
                before = {name: engine.delivered(name) for name in "xy"}
                try:
                    engine.advance(stop=stop)
                except Crashed:
                    content = engine.disk.content[:engine.disk.synced]
                    journal = Journal.read(net.tokens, content)
                    # The crash was ahead of the sync, so nothing more is delivered.
                    self.assertEqual({name: journal.answer(name) for name in "xy"}, before)
                journal = Journal.read(net.tokens, engine.disk.content)
                for name in "xy":
                    self.assertTrue(before[name].begins(journal.answer(name)))
                    self.assertTrue(journal.answer(name).begins(plain[name]))


if __name__ == "__main__":
    unittest.main()
