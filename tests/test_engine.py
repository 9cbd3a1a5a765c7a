"""Engines: settings, requests, rounds, turns, drafts and counts: [23] to [29], [31], [32]."""

import itertools
import unittest

from answersalone.answers import Answer
from answersalone.automata import Automaton, everything
from answersalone.disk import Disk
from answersalone.drafters import Always, Echo, Foresight
from answersalone.engine import Engine
from answersalone.errors import InvalidRequest, InvalidSetting, TooMany, Twice, UnknownName, UnknownRun
from answersalone.plain import plain_answer
from answersalone.requests import Request
from answersalone.words import BUDGET, PAGE, ROOM

from samples import example_net
from standin import RecordingNet, mixed_weights, odd_values

X = Request("x", [1, 2], 6)
Y = Request("y", [1, 1, 2], 6)


def engine_of(*requests, net=None, **settings):
    """An engine on a new disk, to which the requests were submitted."""
    engine = Engine(example_net() if net is None else net, Disk(), **settings)
    for request in requests:
        assert engine.submit(request)
    return engine


def counts(engine):
    return engine.rounds, engine.worked, engine.reused, engine.suspended, engine.peak, engine.standing


def state(engine):
    """All that an engine tells, with its disk."""
    runs = [(name, run) for name in engine.names() for run in range(4)]
    told = []
    for name, run in runs:
        try:
            told.append((engine.delivered(name, run), engine.status(name, run), engine.held(name, run)))
        except UnknownRun:
            told.append(None)
    return (
        engine.disk.content, engine.disk.synced, engine.names(), engine.live(), engine.pages(), engine.tails(),
        counts(engine), told, engine.dead, len(engine), repr(engine),
    )


def each_round(engine):
    """For each round: what it told, the places that it worked, and what was standing behind it."""
    rounds = []
    before = engine.worked
    for told in engine.story():
        rounds.append((told, engine.worked - before, engine.standing))
        before = engine.worked
    return rounds


def net_that_weighs(weigh):
    return RecordingNet(".ab", weigh)


class CallsDrafter:
    """A drafter that keeps the texts for which it was called."""

    def __init__(self, result):
        self.result = result
        self.texts = []

    def __call__(self, text):
        self.texts.append(list(text))
        text.append("spoilt")
        return self.result(text[:-1]) if callable(self.result) else self.result


class SettingsTest(unittest.TestCase):
    def test_attributes(self):
        net, disk = example_net(), Disk()
        engine = Engine(net, disk)
        self.assertIs(engine.net, net)
        self.assertIs(engine.disk, disk)
        self.assertEqual((engine.page, engine.room, engine.budget, engine.guess), (PAGE, ROOM, BUDGET, 0))
        engine = Engine(disk=disk, net=net, guess=3, drafter=None, budget=7, room=30, page=4)
        self.assertEqual((engine.page, engine.room, engine.budget, engine.guess), (4, 30, 7, 3))

    def test_a_new_engine(self):
        engine = Engine(example_net(), Disk())
        self.assertEqual(state(engine), ("", 0, [], [], [], [], (0,) * 6, [], False, 0, "Engine(0 requests, round 0)"))
        self.assertIs(bool(engine), True)
        self.assertIs(engine.dead, False)

    def test_bounds(self):
        bounds = {"page": (1, 5), "room": (1, 60), "budget": (1, 40), "guess": (0, 5)}
        for field, (least, most) in bounds.items():
            for value in (least, most):
                self.assertEqual(getattr(Engine(example_net(), Disk(), **{field: value}), field), value)
            for value in [least - 1, most + 1, -1, 10 ** 9, "1", ""] + odd_values():
                with self.assertRaises(InvalidSetting) as caught:
                    Engine(example_net(), Disk("rubbish\n"), **{field: value})
                self.assertEqual(caught.exception.field, field)

    def test_the_first_wrong_setting_counts(self):
        fields = ["page", "room", "budget", "guess"]
        for many in range(1, 5):
            for wrong in itertools.combinations(fields, many):
                with self.assertRaises(InvalidSetting) as caught:
                    Engine(example_net(), Disk(), **{field: None for field in reversed(wrong)})
                self.assertEqual(caught.exception.field, wrong[0])


class DocumentTest(unittest.TestCase):
    def test_room_8_and_budget_4(self):
        engine = engine_of(X, Y, page=2, room=8, budget=4)
        rounds = each_round(engine)
        self.assertEqual([worked for _, worked, _ in rounds], [4, 2, 2, 2, 2, 2, 1])
        self.assertEqual([standing for _, _, standing in rounds], [2, 4, 4, 6, 6, 7, 7])
        self.assertEqual(counts(engine), (7, 15, 0, 0, 7, 7))
        self.assertEqual([told for told, _, _ in rounds], [
            [("x", 0, 2)], [("x", 0, 1), ("y", 0, 1)], [("x", 0, 1), ("y", 0, 1)], [("x", 0, 1), ("y", 0, 1)],
            [("x", 0, 1), ("y", 0, 1)], [("x", 0, 1), ("y", 0, 1)], [("y", 0, 1)],
        ])
        self.assertEqual([engine.status("x"), engine.status("y")], ["ended", "ended"])
        self.assertEqual(engine.delivered("x"), Answer([2, 1, 1, 1, 1, 1], "full"))
        self.assertEqual(engine.delivered("y"), Answer([1] * 6, "full"))

    def test_room_4_and_budget_3(self):
        engine = engine_of(X, Y, page=2, room=4, budget=3)
        seen = []
        before = 0
        for told in engine.story():
            seen.append((engine.worked - before, engine.standing, engine.status("x"), engine.status("y"),
                         engine.held("x"), engine.held("y"), engine.suspended, engine.reused))
            before = engine.worked
        self.assertEqual(seen, [
            (3, 2, "running", "running", 2, 1, 0, 0),
            (3, 4, "running", "running", 3, 3, 0, 0),
            (2, 4, "running", "running", 4, 4, 0, 0),
            (1, 4, "running", "waiting", 5, 0, 1, 2),
            (1, 4, "running", "waiting", 6, 0, 1, 4),
            (3, 4, "ended", "running", 0, 2, 1, 4),
            (3, 4, "ended", "running", 0, 5, 1, 4),
            (1, 4, "ended", "running", 0, 6, 1, 4),
            (1, 4, "ended", "running", 0, 7, 1, 4),
            (1, 4, "ended", "ended", 0, 0, 1, 4),
        ])
        self.assertEqual(counts(engine), (10, 19, 4, 1, 4, 4))
        self.assertEqual(engine.delivered("x"), Answer([2, 1, 1, 1, 1, 1], "full"))
        self.assertEqual(engine.delivered("y"), Answer([1] * 6, "full"))

    def test_with_a_drafter(self):
        engine = engine_of(X, page=2, room=8, budget=9, drafter=Always(2, 1), guess=2)
        rounds = each_round(engine)
        self.assertEqual([worked for _, worked, _ in rounds], [4, 3, 2, 1])
        self.assertEqual([told for told, _, _ in rounds], [
            [("x", 0, 2), ("x", 0, 1), ("x", 0, 1)], [("x", 0, 1)], [("x", 0, 1)], [("x", 0, 1)],
        ])
        self.assertEqual(engine.delivered("x"), Answer([2, 1, 1, 1, 1, 1], "full"))

    def test_the_printed_examples(self):
        net = example_net()
        engine = Engine(net, Disk(), page=2, room=8, budget=4)
        taken = [engine.submit(Request("x", [1, 2], 6)), engine.submit(Request("y", [1, 1, 2], 6))]
        rounds = engine.finish()
        self.assertEqual(
            [taken, rounds, engine.worked, engine.peak, engine.delivered("x").tokens, engine.delivered("y").why],
            [[True, True], 7, 15, 7, (2, 1, 1, 1, 1, 1), "full"])
        engine = Engine(net, Disk(), page=2, room=4, budget=3)
        taken = [engine.submit(Request("x", [1, 2], 6)), engine.submit(Request("y", [1, 1, 2], 6))]
        self.assertEqual(
            [engine.finish(), engine.worked, engine.reused, engine.suspended, engine.peak, engine.delivered("y").tokens],
            [10, 19, 4, 1, 4, (1, 1, 1, 1, 1, 1)])
        engine = Engine(net, Disk(), page=2, room=8, budget=9, drafter=Always(2, 1), guess=2)
        taken = engine.submit(Request("x", [1, 2], 6))
        first = engine.advance()
        self.assertEqual([first, engine.worked, engine.finish(), engine.worked],
                         [[("x", 0, 2), ("x", 0, 1), ("x", 0, 1)], 4, 3, 10])


class SubmitTest(unittest.TestCase):
    def test_a_request_that_is_taken(self):
        engine = Engine(example_net(), Disk())
        self.assertIs(engine.submit(request=X), True)
        self.assertEqual(engine.disk.content, "ask x ab 6 best 0 1 *\n")
        self.assertEqual(engine.disk.synced, len(engine.disk.content))
        self.assertEqual((engine.names(), engine.live(), len(engine)), (["x"], [("x", 0)], 1))
        self.assertEqual((engine.status("x"), engine.delivered("x"), engine.held("x")), ("waiting", Answer(), 0))
        self.assertEqual(repr(engine), "Engine(1 requests, round 0)")
        self.assertEqual(counts(engine), (0,) * 6)

    def test_a_request_that_needs_too_much_room(self):
        for room in range(1, 8):
            engine = Engine(example_net(), Disk(), page=2, room=room)
            before = state(engine)
            self.assertIs(engine.submit(X), room >= 4)
            if room < 4:
                self.assertEqual(state(engine), before)
                self.assertIs(engine.submit(X, stop=0), False)
        copies = X.changed(copies=2, most=4)
        self.assertEqual(copies.need(2), 5)
        self.assertEqual([Engine(example_net(), Disk(), room=room).submit(copies) for room in (4, 5)], [False, True])
        self.assertEqual([Engine(example_net(), Disk(), page=1, room=6).submit(X),
                          Engine(example_net(), Disk(), page=1, room=7).submit(X)], [False, True])

    def test_a_request_that_is_not_possible(self):
        engine = Engine(example_net(), Disk())
        before = state(engine)
        impossible = X.changed(automaton=Automaton.read("1-/2-/3-/--+"), most=2)
        self.assertIs(engine.submit(impossible), False)
        self.assertIs(engine.submit(X.changed(automaton=Automaton.read("00"))), False)
        self.assertEqual(state(engine), before)
        self.assertIs(engine.submit(impossible.changed(most=3)), True)

    def test_values_that_are_no_requests(self):
        engine = engine_of(X)
        before = state(engine)
        odd = [value for value in odd_values() if not isinstance(value, Request)]
        for value in ["x", "ask x ab 6 best 0 1 *", 0, 7, everything(3)] + odd:
            with self.assertRaises(InvalidRequest) as caught:
                engine.submit(value, stop="no")
            self.assertEqual(caught.exception.field, "request")
        self.assertEqual(state(engine), before)

    def test_requests_that_do_not_fit(self):
        engine = engine_of(X)
        before = state(engine)
        for request, field in [
            (X.changed(text=[3]), "text"), (X.changed(text=[1, 5], automaton=everything(4)), "text"),
            (X.changed(automaton=everything(2)), "automaton"), (X.changed(name="z", automaton=everything(4)), "automaton"),
            (X.changed(automaton=Automaton.read("0")), "automaton"),
        ]:
            with self.assertRaises(InvalidRequest) as caught:
                engine.submit(request, stop="no")
            self.assertEqual(caught.exception.field, field)
        self.assertEqual(state(engine), before)

    def test_a_name_twice(self):
        engine = engine_of(X, Y)
        engine.cancel("y")
        engine.finish()
        before = state(engine)
        for request in [X, Y, X.changed(copies=4, most=16), Y.changed(text=[2], automaton=Automaton.read("00"))]:
            with self.assertRaises(Twice) as caught:
                engine.submit(request, stop="no")
            self.assertEqual(caught.exception.name, request.name)
        self.assertEqual(state(engine), before)

    def test_too_many(self):
        names = "abcdefghijklmnop"
        engine = engine_of(*[Request(name, [1], 1) for name in names])
        engine.finish()
        before = state(engine)
        for request in [Request("z", [1], 1), Request("z", [1], 16, copies=4)]:
            with self.assertRaises(TooMany) as caught:
                engine.submit(request, stop="no")
            self.assertEqual(caught.exception.number, 16)
        with self.assertRaises(Twice):
            engine.submit(Request("a", [1], 1))
        self.assertEqual(state(engine), before)

    def test_a_wrong_stop(self):
        engine = engine_of(X)
        before = state(engine)
        for stop in [-1, 10 ** 9, "0", ""] + odd_values()[1:]:
            with self.assertRaises(InvalidSetting) as caught:
                engine.submit(Y, stop=stop)
            self.assertEqual(caught.exception.field, "stop")
            with self.assertRaises(InvalidSetting):
                engine.submit(Y.changed(copies=4, most=16), stop=stop)
        self.assertEqual(state(engine), before)
        self.assertIs(engine.submit(Y, stop=999999999), True)

    def test_between_rounds(self):
        engine = engine_of(X, page=2, room=12)
        engine.advance()
        engine.submit(Y)
        self.assertEqual(engine.live(), [("x", 0), ("y", 0)])
        engine.finish()
        self.assertEqual(engine.delivered("y"), plain_answer(example_net(), Y))


class CancelTest(unittest.TestCase):
    def test_a_live_request(self):
        engine = engine_of(X, Y, page=2, room=12, budget=9)
        engine.advance()
        self.assertEqual((engine.status("x"), engine.held("x")), ("running", 2))
        self.assertIs(engine.cancel("x"), True)
        self.assertEqual(engine.disk.content.split("\n")[-2], "cancel x")
        self.assertEqual(engine.disk.synced, len(engine.disk.content))
        self.assertEqual((engine.status("x"), engine.held("x"), engine.live()), ("cancelled", 0, [("y", 0)]))
        self.assertEqual(engine.delivered("x"), Answer([2], "cancelled"))
        self.assertEqual([(path, users) for path, _, users in engine.pages()], [((1, 1), (("y", 0),)), ((1, 2), ())])
        rounds = engine.finish()
        self.assertEqual(engine.delivered("x"), Answer([2], "cancelled"))
        self.assertEqual((rounds, engine.delivered("y")), (5, Answer([1] * 6, "full")))

    def test_tails_go(self):
        engine = engine_of(X.changed(text=[1, 2, 1]), page=2)
        engine.advance()
        self.assertEqual((len(engine.tails()), engine.standing), (1, 2))
        engine.cancel(name="x")
        self.assertEqual((engine.tails(), engine.standing, engine.peak), ([], 1, 2))

    def test_all_live_runs_and_no_other_ones(self):
        net = net_that_weighs(lambda text: [1, 1, 2])
        request = Request("x", [1], 6, knob="draw", seed=4, copies=4)
        plain = [plain_answer(net, request, run) for run in range(4)]
        self.assertEqual([(answer.why, len(answer)) for answer in plain],
                         [("end", 1), ("end", 0), ("end", 4), ("end", 3)])
        engine = engine_of(request, net=net, room=20, budget=9)
        engine.advance()
        engine.advance()
        self.assertIs(engine.cancel("x"), True)
        self.assertEqual([engine.delivered("x", run).why for run in range(4)], ["end", "end", "cancelled", "cancelled"])
        self.assertEqual([engine.status("x", run) for run in range(4)], ["ended", "ended", "cancelled", "cancelled"])
        self.assertEqual([len(engine.delivered("x", run)) for run in range(4)], [1, 0, 2, 2])
        self.assertEqual((engine.live(), engine.tails()), ([], []))

    def test_waiting_runs(self):
        engine = engine_of(X, Y)
        self.assertIs(engine.cancel("y"), True)
        self.assertEqual((engine.status("y"), engine.live()), ("cancelled", [("x", 0)]))

    def test_a_request_that_is_not_live(self):
        engine = engine_of(X, Y)
        engine.cancel("y")
        engine.finish()
        before = state(engine)
        for name in "xy":
            self.assertIs(engine.cancel(name), False)
            self.assertIs(engine.cancel(name, stop=0), False)
        self.assertEqual(state(engine), before)

    def test_unknown_names(self):
        engine = engine_of(X)
        before = state(engine)
        for name in ["y", "", "X", "x ", 0, 1] + odd_values():
            with self.assertRaises(UnknownName) as caught:
                engine.cancel(name, stop="no")
            self.assertIs(caught.exception.name, name)
        self.assertEqual(state(engine), before)

    def test_a_wrong_stop(self):
        engine = engine_of(X, Y)
        engine.cancel("y")
        before = state(engine)
        for stop in [-1, 10 ** 9, "0", ""] + odd_values()[1:]:
            for name in "xy":
                with self.assertRaises(InvalidSetting) as caught:
                    engine.cancel(name, stop=stop)
                self.assertEqual(caught.exception.field, "stop")
        self.assertEqual(state(engine), before)

    def test_released_pages_have_the_present_round(self):
        net = RecordingNet(".abc", lambda text: [0, 1, 0, 0])
        for order, left in [("yx", (1, 1)), ("xy", (2, 2))]:
            engine = engine_of(Request("x", [1, 1], 3), Request("y", [2, 2], 3), net=net, page=2, room=4, budget=9)
            engine.advance()
            engine.cancel(order[0])
            engine.advance()
            engine.cancel(order[1])
            # One page is dropped: the one that was released in the earlier round.
            engine.submit(Request("z", [3] * 6, 1))
            engine.advance()
            self.assertEqual([path for path, _, _ in engine.pages()], [left] + [(3,) * many for many in (2, 4, 6)])

class RoundTest(unittest.TestCase):
    def test_what_advance_returns(self):
        engine = engine_of(X, Y, budget=9)
        told = engine.advance()
        self.assertEqual(told, [("x", 0, 2), ("y", 0, 1)])
        self.assertIsInstance(told, list)
        told.clear()
        self.assertEqual(engine.advance(), [("x", 0, 1), ("y", 0, 1)])
        self.assertEqual(engine.disk.lines()[2:], ["token x 0 b", "token y 0 a", "token x 0 a", "token y 0 a"])

    def test_ends_are_told(self):
        engine = engine_of(X, net=net_that_weighs(lambda text: [len(text) // 4, 1, 0]))
        self.assertEqual([told for told in engine.story()], [[("x", 0, 1)], [("x", 0, 1)], [("x", 0, 0)]])
        self.assertEqual(engine.disk.lines()[-1], "token x 0 .")
        self.assertEqual((engine.delivered("x"), engine.status("x")), (Answer([1, 1], "end"), "ended"))

    def test_a_round_without_live_runs(self):
        engine = engine_of(X)
        engine.cancel("x")
        self.assertEqual((engine.advance(), engine.rounds), ([], 1))
        engine = Engine(example_net(), Disk())
        self.assertEqual((engine.advance(), engine.rounds), ([], 1))
        self.assertEqual(repr(engine), "Engine(0 requests, round 1)")

    def test_no_turn_without_budget(self):
        engine = engine_of(X, Y, budget=2)
        self.assertEqual((engine.advance(), engine.status("y")), ([("x", 0, 2)], "waiting"))
        self.assertEqual((engine.advance(), engine.held("y")), ([("x", 0, 1)], 1))
        self.assertEqual((engine.advance(), engine.held("y")), ([("x", 0, 1)], 2))
        self.assertEqual((engine.advance(), engine.held("y")), ([("x", 0, 1), ("y", 0, 1)], 3))

    def test_a_run_without_budget_stays_running(self):
        engine = engine_of(Request("x", [1] * 9, 3), budget=4, room=12)
        for held in (4, 8):
            self.assertEqual((engine.advance(), engine.held("x"), engine.status("x")), ([], held, "running"))
        # The last place of the text is worked with the budget's first number; the token needs none.
        self.assertEqual((engine.advance(), engine.worked), ([("x", 0, 1)], 9))

    def test_a_token_needs_no_budget(self):
        engine = engine_of(X, budget=2)
        self.assertEqual((engine.advance(), engine.worked), ([("x", 0, 2)], 2))

    def test_a_wrong_stop(self):
        engine = engine_of(X)
        before = state(engine)
        for stop in [-1, 10 ** 9, "0", ""] + odd_values()[1:]:
            with self.assertRaises(InvalidSetting) as caught:
                engine.advance(stop=stop)
            self.assertEqual(caught.exception.field, "stop")
        self.assertEqual(state(engine), before)

    def test_all_is_synced_behind_a_round(self):
        engine = engine_of(X, Y)
        for _ in range(9):
            engine.advance()
            self.assertEqual(engine.disk.synced, len(engine.disk.content))

    def test_the_net_works_a_place_with_the_rows_that_the_run_holds(self):
        net = net_that_weighs(mixed_weights)
        engine = engine_of(Request("x", [1, 2, 1], 4), Request("y", [1, 2, 2], 4), net=net, budget=20, room=20)
        engine.advance()
        rows = [(1, 0), (2, 1)]
        # y begins with the page of the first two places.
        self.assertEqual(net.places, [([], 1), (rows[:1], 2), (rows, 1), (rows, 2)])
        self.assertEqual((engine.worked, engine.reused), (4, 2))


class StoryTest(unittest.TestCase):
    def test_a_round_is_done_when_its_item_is_requested(self):
        engine = engine_of(X, budget=9)
        story = engine.story()
        self.assertEqual(engine.rounds, 0)
        self.assertEqual((next(story), engine.rounds), ([("x", 0, 2)], 1))
        self.assertEqual((next(story), engine.rounds), ([("x", 0, 1)], 2))
        self.assertEqual((len(list(story)), engine.rounds), (4, 6))
        self.assertEqual((list(engine.story()), engine.rounds), ([], 6))

    def test_at_most_so_many(self):
        engine = engine_of(X, budget=9)
        self.assertEqual((list(engine.story(0)), engine.rounds), ([], 0))
        self.assertEqual((len(list(engine.story(most=2))), engine.rounds), (2, 2))
        self.assertEqual((engine.finish(0), engine.rounds), (0, 2))
        self.assertEqual((engine.finish(3), engine.rounds), (3, 5))
        self.assertEqual((engine.finish(most=3), engine.rounds), (1, 6))
        self.assertEqual((engine.finish(), engine.rounds), (0, 6))

    def test_without_requests(self):
        engine = Engine(example_net(), Disk())
        self.assertEqual((engine.finish(), list(engine.story()), engine.rounds), (0, [], 0))

    def test_400_rounds(self):
        requests = [Request("abcdefgh"[at], [1 + (at >> bit) % 2 for bit in range(16)], 16, copies=4, knob="draw")
                    for at in range(8)]
        engines = [engine_of(*requests, net=net_that_weighs(lambda text: [0, 1, 1]), page=5, room=60, budget=1)
                   for _ in range(2)]
        self.assertEqual((engines[0].finish(), engines[0].rounds), (400, 400))
        self.assertNotEqual(engines[0].live(), [])
        self.assertEqual(len(list(engines[1].story())), 400)
        self.assertEqual(state(engines[0]), state(engines[1]))
        self.assertEqual(engines[0].finish(500) + 400, engines[0].rounds)
        self.assertEqual(engines[0].live(), [])

    def test_as_advance(self):
        one, other, third = [engine_of(X, Y, room=4, budget=3) for _ in range(3)]
        told = [one.advance() for _ in range(10)]
        self.assertEqual(list(other.story()), told)
        self.assertEqual(third.finish(), 10)
        self.assertEqual(state(one), state(other))
        self.assertEqual(state(one), state(third))

    def test_a_story_sees_what_happens_between_its_items(self):
        engine = engine_of(X, budget=9)
        story = engine.story()
        next(story)
        engine.cancel("x")
        self.assertEqual(list(story), [])


class TellingTest(unittest.TestCase):
    def test_contains_any_value(self):
        engine = engine_of(X)
        self.assertTrue("x" in engine)
        for value in ["y", "", "X", 0, 1] + odd_values():
            self.assertFalse(value in engine)
        engine.cancel("x")
        self.assertTrue("x" in engine)

    def test_unknown_names_and_runs(self):
        engine = engine_of(X, Y.changed(copies=2, most=2))
        for call in [engine.delivered, engine.status, engine.held]:
            for name in ["z", "", 0] + odd_values():
                for run in (0, 7, None):
                    with self.assertRaises(UnknownName) as caught:
                        call(name, run)
                    self.assertIs(caught.exception.name, name)
            for name, runs in [("x", [1, 2, -1, "0"] + odd_values()), ("y", [2, 4, -1, 10 ** 9] + odd_values())]:
                for run in runs:
                    with self.assertRaises(UnknownRun) as caught:
                        call(name, run)
                    self.assertIs(caught.exception.run, run)
            self.assertEqual(call(run=0, name="y"), call("y"))

    def test_names_and_live_runs_by_age(self):
        engine = engine_of(Y.changed(copies=2, most=2), X, Request("a", [1], 1), room=20, budget=20)
        self.assertEqual(engine.names(), ["y", "x", "a"])
        self.assertEqual(engine.live(), [("y", 0), ("y", 1), ("x", 0), ("a", 0)])
        engine.advance()
        self.assertEqual(engine.live(), [("y", 0), ("y", 1), ("x", 0)])
        self.assertEqual((engine.names(), len(engine)), (["y", "x", "a"], 3))

    def test_pages_and_tails(self):
        engine = engine_of(Y.changed(copies=2, most=2), X, page=2, room=20, budget=5)
        engine.advance()
        net = example_net()
        rows = []
        for token in (1, 1, 2):
            rows.append(net.place(rows, token)[0])
        other = [net.place([], 1)[0]]
        other.append(net.place(other, 2)[0])
        self.assertEqual(engine.pages(), [((1, 1), tuple(rows[:2]), (("y", 0), ("y", 1))),
                                          ((1, 2), tuple(other), (("x", 0),))])
        self.assertEqual(engine.tails(), [((1, 1, 2), (rows[2],), (("y", 0), ("y", 1)))])

    def test_equal_tails_by_the_ages_of_their_holders(self):
        engine = engine_of(*[Request(name, [2], 1 + (name != "z")) for name in "cab"], page=3, budget=3)
        engine.advance()
        self.assertEqual([(path, users) for path, _, users in engine.tails()],
                         [((2,), (("c", 0),)), ((2,), (("a", 0),)), ((2,), (("b", 0),))])

    def test_told_lists_are_new(self):
        engine = engine_of(X, Y.changed(text=[1, 2, 1]))
        engine.advance()
        before = state(engine)
        for told in [engine.names(), engine.live(), engine.pages(), engine.tails()]:
            self.assertIsInstance(told, list)
            self.assertNotEqual(told, [])
            told.clear()
        self.assertEqual(state(engine), before)


class CopiesTest(unittest.TestCase):
    def test_they_share_what_the_run_0_worked(self):
        engine = engine_of(X.changed(copies=4), page=2, room=20, budget=2)
        # The run 0 works the text; the others know its last row, and get their tokens as soon as there is a budget.
        self.assertEqual(engine.advance(), [("x", 0, 2)])
        self.assertEqual([engine.status("x", run) for run in range(4)], ["running"] * 4)
        self.assertEqual([engine.held("x", run) for run in range(4)], [2] * 4)
        self.assertEqual((engine.standing, engine.reused, engine.worked), (1, 0, 2))
        self.assertEqual(engine.pages()[0][2], (("x", 0), ("x", 1), ("x", 2), ("x", 3)))

    def test_the_known_last_row_is_kept_until_their_turns(self):
        engine = engine_of(X.changed(copies=3), page=2, room=20, budget=2)
        engine.advance()
        # The run 0 works a place, the run 1 none; it gets its token with the budget that is left.
        self.assertEqual(engine.advance(), [("x", 0, 1), ("x", 1, 2), ("x", 2, 2)])
        self.assertEqual(engine.worked, 3)
        self.assertEqual(engine.advance(), [("x", 0, 1), ("x", 1, 1)])
        self.assertEqual((engine.worked, engine.held("x", 2)), (5, 2))

    def test_with_budget_1(self):
        engine = engine_of(X.changed(copies=2, most=2), page=2, room=20, budget=1)
        self.assertEqual([told for told in engine.story()], [
            [], [("x", 0, 2)], [("x", 0, 1)], [("x", 1, 2)], [("x", 1, 1)],
        ])
        self.assertEqual((engine.worked, engine.reused), (4, 0))

    def test_they_wait_for_the_run_0(self):
        engine = engine_of(Request("x", [1] * 6, 2, copies=2), page=2, room=20, budget=4)
        self.assertEqual(engine.advance(), [])
        self.assertEqual([engine.status("x", run) for run in range(2)], ["running", "waiting"])
        self.assertEqual((engine.held("x"), engine.held("x", 1), engine.worked), (4, 0, 4))
        self.assertEqual(engine.advance(), [("x", 0, 1), ("x", 1, 1)])
        self.assertEqual(engine.worked, 6)

    def test_all_in_one_round(self):
        engine = engine_of(X.changed(copies=4, most=1), page=2, room=20, budget=9)
        self.assertEqual(engine.advance(), [("x", run, 2) for run in range(4)])
        self.assertEqual((engine.worked, engine.peak, engine.live()), (2, 1, []))

    def test_they_part_by_their_draws(self):
        request = Request("x", [1, 2], 5, knob="draw", seed=5, copies=4)
        net = net_that_weighs(mixed_weights)
        answers = [plain_answer(net, request, run) for run in range(4)]
        self.assertGreater(len({answer.tokens for answer in answers}), 1)
        for budget in (1, 2, 3, 40):
            engine = engine_of(request, net=net_that_weighs(mixed_weights), room=20, budget=budget)
            engine.finish()
            self.assertEqual([engine.delivered("x", run) for run in range(4)], answers)

    def test_a_shared_tail_is_copied(self):
        request = Request("x", [1, 2, 1], 4, knob="draw", seed=1, copies=2)
        net = net_that_weighs(lambda text: [0, 1, 1])
        plain = [plain_answer(net, request, run) for run in range(2)]
        self.assertNotEqual(plain[0].tokens[0], plain[1].tokens[0])
        engine = engine_of(request, net=net, page=5, room=9, budget=3)
        engine.advance()
        self.assertEqual([triple[2] for triple in engine.tails()], [(("x", 0), ("x", 1))])
        engine.advance()
        # The run 0 wrote its copy; the run 1 holds the old tail.
        self.assertEqual([(path, users) for path, _, users in engine.tails()],
                         [((1, 2, 1), (("x", 1),)), ((1, 2, 1, plain[0].tokens[0]), (("x", 0),))])
        engine.advance()
        self.assertEqual([(path, users) for path, _, users in engine.tails()],
                         [((1, 2, 1, plain[1].tokens[0]), (("x", 1),))])
        self.assertEqual([(path, users) for path, _, users in engine.pages()],
                         [((1, 2, 1, *plain[0].tokens[:2]), (("x", 0),))])

    def test_they_begin_alone_if_the_run_0_is_over(self):
        # The run 0 ends with its first token, the run 1 was suspended before its own.
        for over in ["token x 0 .", "token x 0 a\ntoken x 0 .", "token x 0 a"]:
            disk = Disk(f"ask x ab 3 best 0 2 *\n{over}\n")
            engine = Engine(net_that_weighs(lambda text: [0, 1, 0]), disk, room=9, budget=2)
            engine.advance()
            if over == "token x 0 a":
                self.assertEqual([engine.held("x", run) for run in range(2)], [2, 0])
                engine.advance()
                # The run 0 works the third place; the run 1 begins with the text, of which a page stands.
                self.assertEqual([engine.held("x", run) for run in range(2)], [3, 1])
            else:
                self.assertEqual((engine.delivered("x", 1), engine.worked), (Answer([1]), 2))
            self.assertEqual(engine.status("x", 1), "running")

    def test_they_wait_though_another_copy_has_a_token(self):
        disk = Disk("ask x ab 3 best 0 3 *\ntoken x 1 a\n")
        engine = Engine(net_that_weighs(lambda text: [0, 1, 0]), disk, room=12, budget=1)
        engine.advance()
        self.assertEqual([engine.status("x", run) for run in range(3)], ["running", "waiting", "waiting"])
        # The run 1 has a token: it does not wait, and it does not share.
        self.assertEqual(engine.advance(), [("x", 0, 1)])
        self.assertEqual([engine.status("x", run) for run in range(3)], ["running", "waiting", "running"])
        engine.finish()
        self.assertEqual([engine.delivered("x", run).tokens for run in range(3)], [(1, 1, 1)] * 3)


class SuspendedTest(unittest.TestCase):
    def test_a_known_last_row_is_lost_by_a_release(self):
        # y shares at the end of the first round; in the second one x needs the room of the shared tail.
        net = net_that_weighs(lambda text: [0, 1, 0])
        engine = engine_of(Request("x", [1] * 4, 5), Request("y", [2, 2], 2, copies=2), net=net, page=4, room=2, budget=6)
        self.assertEqual(engine.advance(), [("x", 0, 1), ("y", 0, 1)])
        self.assertEqual([(engine.status("y", run), engine.held("y", run)) for run in range(2)], [("running", 2)] * 2)
        self.assertEqual((engine.standing, engine.worked), (2, 6))
        self.assertEqual(engine.advance(), [("x", 0, 1)])
        self.assertEqual((engine.suspended, engine.status("y", 0), engine.status("y", 1)), (2, "waiting", "waiting"))
        engine.finish()
        self.assertEqual([engine.delivered("y", run) for run in range(2)], [Answer([1, 1], "full")] * 2)
        # Three more places of x, and three of each run of y, of which none stood in a page.
        self.assertEqual((engine.worked, engine.reused, engine.suspended), (16, 0, 2))

    def test_a_suspended_run_may_have_its_turn_in_the_same_round(self):
        engine = engine_of(X, Y, page=2, room=4, budget=3)
        engine.finish(3)
        self.assertEqual((engine.reused, engine.suspended, engine.held("y")), (0, 0, 4))
        engine.advance()
        # It began again with two places, and gave up.
        self.assertEqual((engine.reused, engine.suspended, engine.held("y"), engine.status("y")), (2, 1, 0, "waiting"))

    def test_giving_up_is_no_suspension(self):
        engine = engine_of(X, Y, page=2, room=4, budget=3)
        engine.finish(5)
        self.assertEqual((engine.suspended, engine.status("y")), (1, "waiting"))


class DraftsTest(unittest.TestCase):
    def drafted(self, drafter, guess, request=X, net=None, budget=9, rounds=1, **settings):
        engine = engine_of(request, net=net, drafter=drafter, guess=guess, budget=budget, **settings)
        for _ in range(rounds):
            told = engine.advance()
        return engine, told

    def test_right_drafts_are_put(self):
        engine, told = self.drafted(Always(2, 1, 1), 3)
        self.assertEqual(told, [("x", 0, 2), ("x", 0, 1), ("x", 0, 1), ("x", 0, 1)])
        self.assertEqual((engine.held("x"), engine.worked), (5, 5))
        rows = []
        for token in (1, 2, 2, 1, 1):
            rows.append(example_net().place(rows, token)[0])
        self.assertEqual(sum([own for _, own, _ in engine.pages() + engine.tails()], ()), tuple(rows))

    def test_wrong_drafts_are_forgotten(self):
        engine, told = self.drafted(Always(1, 1, 1), 3)
        self.assertEqual(told, [("x", 0, 2)])
        self.assertEqual((engine.held("x"), engine.worked, engine.standing), (2, 5, 1))

    def test_all_behind_a_wrong_draft_are_forgotten(self):
        engine, told = self.drafted(Always(2, 2, 1), 3)
        self.assertEqual(told, [("x", 0, 2), ("x", 0, 1)])
        self.assertEqual((engine.held("x"), engine.worked), (3, 5))
        self.assertEqual(engine.delivered("x"), Answer([2, 1]))

    def test_a_drafter_needs_a_guess_length_and_a_guess_length_a_drafter(self):
        drafter = CallsDrafter([2, 1])
        self.drafted(drafter, 0)
        self.assertEqual(drafter.texts, [])
        self.assertEqual(self.drafted(None, 5)[1], [("x", 0, 2)])

    def test_it_is_called_once_with_a_new_list_of_the_whole_text(self):
        drafter = CallsDrafter([2, 1])
        engine, _ = self.drafted(drafter, 2)
        self.assertEqual(drafter.texts, [[1, 2]])
        engine.advance()
        self.assertEqual(drafter.texts, [[1, 2], [1, 2, 2, 1, 1]])
        engine.finish()
        self.assertEqual(engine.delivered("x"), Answer([2, 1, 1, 1, 1, 1], "full"))

    def test_the_limit_by_the_guess_length(self):
        for guess in range(1, 6):
            engine, told = self.drafted(Always(2, 1, 1, 1, 1, 1), guess)
            self.assertEqual((len(told), engine.worked), (guess + 1, 2 + guess))

    def test_the_limit_by_the_budget(self):
        for budget in range(2, 9):
            engine, told = self.drafted(Always(2, 1, 1, 1, 1, 1), 5, budget=budget)
            self.assertEqual((len(told), engine.worked), (min(budget, 7) - 1, min(budget, 7)))

    def test_the_budget_left_is_for_the_younger_runs(self):
        engine = engine_of(X, Y, drafter=Always(2, 1), guess=2, budget=5)
        self.assertEqual(engine.advance(), [("x", 0, 2), ("x", 0, 1), ("x", 0, 1)])
        self.assertEqual((engine.held("y"), engine.worked), (1, 5))
        engine = engine_of(X, Y, drafter=Always(2, 1), guess=2, budget=4)
        engine.advance()
        self.assertEqual(engine.status("y"), "waiting")

    def test_the_limit_by_the_most(self):
        for most in range(1, 7):
            engine, told = self.drafted(Always(2, 1, 1, 1, 1, 1), 5, request=X.changed(most=most))
            self.assertEqual((len(told), engine.worked), (most, 2 + most - 1))
            self.assertEqual((engine.delivered("x").why, engine.standing), ("full", 1))

    def test_no_call_with_a_limit_of_0(self):
        drafter = CallsDrafter([2])
        self.drafted(drafter, 5, request=X.changed(most=1))
        self.drafted(drafter, 5, budget=2)
        self.assertEqual(drafter.texts, [])

    def test_an_end_is_chosen_behind_drafts(self):
        net = net_that_weighs(lambda text: [9 if len(text) == 4 else 0, 1, 0])
        engine, told = self.drafted(Always(1, 1, 1, 1), 4, net=net)
        self.assertEqual(told, [("x", 0, 1), ("x", 0, 1), ("x", 0, 0)])
        self.assertEqual((engine.delivered("x"), engine.worked, engine.standing), (Answer([1, 1], "end"), 6, 1))
        self.assertEqual(engine.status("x"), "ended")

    def test_complete_runs_put_nothing(self):
        engine, told = self.drafted(Always(2, 1, 1, 1, 1), 5, request=X.changed(most=4))
        self.assertEqual(len(told), 4)
        self.assertEqual([path for path, _, _ in engine.pages()], [(1, 2)])
        self.assertEqual((engine.peak, engine.tails()), (1, []))

    def test_drafts_are_judged_by_draws_and_automata(self):
        request = Request("x", [1], 6, knob="draw", seed=3, automaton=Automaton.read("11/22/00+"))
        net = net_that_weighs(mixed_weights)
        plain = plain_answer(net, request)
        self.assertEqual(plain, Answer([2, 2, 1, 2, 2], "end"))
        for many in range(6):
            engine, told = self.drafted(CallsDrafter(lambda text: plain.tokens[len(text) - 1:][:many]), 5, request, net)
            self.assertEqual(told, [("x", 0, token) for token in [*plain.tokens, 0][:many + 1]])
            engine.finish()
            self.assertEqual(engine.delivered("x"), plain)

    def test_drafters_that_answer_rubbish(self):
        plain = [plain_answer(example_net(), X), plain_answer(example_net(), Y)]
        for result in ["ba", "", 0, 7, [0], [3], [-1], [2, 0, 1], [2, 10 ** 9], ["b", 2], [[2], 1], [True, 1], {}, {1: 2},
                       [2, None], (2, (1,)), [None]] + odd_values():
            engine = engine_of(X, Y, drafter=CallsDrafter(result), guess=5, room=9)
            engine.finish()
            self.assertEqual([engine.delivered("x"), engine.delivered("y")], plain)

    def test_rubbish_costs_no_budget(self):
        for result in ["ba", 0, [0, 2], [3, 2], [True], None, [[2]]]:
            engine, told = self.drafted(CallsDrafter(result), 5)
            self.assertEqual((told, engine.worked), ([("x", 0, 2)], 2))
        engine, told = self.drafted(CallsDrafter((2, 1, "a", 1)), 5)
        self.assertEqual((len(told), engine.worked), (3, 4))

    def test_each_kind_of_drafter(self):
        net = example_net()
        plain = [plain_answer(net, X), plain_answer(net, Y)]
        for drafter, guess in itertools.product(
                [Always(), Always(1), Always(2, 1, 1), Echo(), Echo(2), Echo(0), Foresight(net), Foresight(net, 1)], range(6)):
            for page, room, budget in [(2, 4, 3), (1, 8, 9), (3, 12, 40), (5, 2, 1)]:
                engine = engine_of(X, Y, page=page, room=room, budget=budget, drafter=drafter, guess=guess)
                engine.finish()
                self.assertEqual([engine.delivered("x"), engine.delivered("y")], plain)

    def test_foresight_needs_few_rounds(self):
        engine = engine_of(X, drafter=Foresight(example_net()), guess=5, budget=9)
        self.assertEqual((engine.finish(), engine.worked), (1, 7))

    def test_copies_draft_for_themselves(self):
        drafter = CallsDrafter([2])
        engine = engine_of(X.changed(copies=2), drafter=drafter, guess=1, budget=9, room=20)
        self.assertEqual(engine.advance(), [("x", 0, 2), ("x", 0, 1), ("x", 1, 2), ("x", 1, 1)])
        self.assertEqual((drafter.texts, engine.worked), ([[1, 2], [1, 2]], 4))

    def test_putting_drafts_stops_without_room(self):
        net = net_that_weighs(lambda text: [0, 1, 0])
        drafter = CallsDrafter(lambda text: [1, 1, 1] if text[0] == 1 else [])
        engine = engine_of(Request("x", [2], 4), Request("y", [1, 1, 1, 1], 5), net=net, page=2, room=4, budget=9,
                           drafter=drafter, guess=3)
        self.assertEqual(engine.advance(), [("x", 0, 1)] + [("y", 0, 1)] * 4)
        # Two of the three drafts are held in a third page of y; the last one would need one more tail.
        self.assertEqual((engine.held("y"), engine.status("y"), engine.standing), (6, "running", 4))
        self.assertEqual((engine.suspended, engine.worked), (0, 8))
        engine.finish()
        self.assertEqual(engine.delivered("y"), Answer([1] * 5, "full"))

    def test_putting_drafts_may_suspend_younger_runs(self):
        net = RecordingNet(".abc", lambda text: [0, 1, 0, 0])
        drafter = CallsDrafter(lambda text: [1, 1, 1] if text == [2, 1] else [])
        requests = [Request("x", [2], 6), Request("y", [1], 4), Request("z", [3], 4)]
        engine = engine_of(*requests, net=net, page=1, room=6, budget=9, drafter=drafter, guess=3)
        self.assertEqual(engine.advance(), [("x", 0, 1), ("y", 0, 1), ("z", 0, 1)])
        self.assertEqual(engine.advance(), [("x", 0, 1)] * 4)
        # The last draft took the room of z; then y gave up, and z, with the room of y, had none for its second place.
        self.assertEqual((engine.held("x"), engine.status("y"), engine.status("z")), (5, "waiting", "waiting"))
        self.assertEqual((engine.suspended, engine.worked, engine.standing), (1, 8, 6))
        engine.finish()
        self.assertEqual([len(engine.delivered(name)) for name in "xyz"], [6, 4, 4])


class AloneTest(unittest.TestCase):
    def test_the_example(self):
        answers = Engine.alone(example_net(), X)
        self.assertIsInstance(answers, list)
        self.assertEqual(answers, [Answer([2, 1, 1, 1, 1, 1], "full")])
        self.assertEqual(Engine.alone(request=Y, net=example_net(), budget=1), [Answer([1] * 6, "full")])

    def test_all_runs(self):
        net = net_that_weighs(mixed_weights)
        for copies, budget in itertools.product(range(1, 5), [1, 2, 7, 40]):
            request = Request("x", [1, 2, 2], 7, knob="draw", seed=77, copies=copies)
            expected = [plain_answer(net, request, run) for run in range(copies)]
            self.assertEqual(Engine.alone(net, request, budget=budget), expected)

    def test_long_ones(self):
        net = net_that_weighs(lambda text: [0, 1, 2])
        request = Request("x", [1] * 16, 16, knob="draw", copies=3)
        self.assertEqual(request.need(1), 61)
        request = request.changed(text=[1] * 15)
        self.assertEqual(request.need(1), 60)
        self.assertEqual(Engine.alone(net, request, budget=1), [plain_answer(net, request, run) for run in range(3)])

    def test_errors(self):
        net = example_net()
        odd = [value for value in odd_values() if not isinstance(value, Request)]
        cases = [(value, "request") for value in ["x", 0] + odd] + [
            (X.changed(text=[3]), "text"), (X.changed(automaton=everything(2)), "automaton"),
            (X.changed(automaton=Automaton.read("0")), "automaton"), (X.changed(automaton=Automaton.read("00")), "most"),
            (X.changed(automaton=Automaton.read("1-/2-/--+"), most=1), "most"),
        ]
        for value, field in cases:
            for budget in (4, 0, None):
                with self.assertRaises(InvalidRequest) as caught:
                    Engine.alone(net, value, budget=budget)
                self.assertEqual(caught.exception.field, field)
        for budget in [0, 41, -1, "4", 10 ** 9] + odd_values():
            with self.assertRaises(InvalidSetting) as caught:
                Engine.alone(net, X, budget=budget)
            self.assertEqual(caught.exception.field, "budget")


if __name__ == "__main__":
    unittest.main()
