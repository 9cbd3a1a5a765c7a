"""Crews: [36], and engines and drafters that have one in the place of a net."""

import copy
import itertools
import random
import unittest

from answersalone.audit import audit
from answersalone.crews import Crew
from answersalone.disk import Disk
from answersalone.drafters import Foresight
from answersalone.engine import Engine
from answersalone.errors import Crashed, InvalidOrder, InvalidSetting
from answersalone.plain import plain_answer, worked
from answersalone.requests import Request
from answersalone.shapes import Shape
from answersalone.splits import Split

from netmodel import listed
from samples import example_net, some_net
from standin import odd_values
from test_facts import some_case
from test_splits import some_split


def some_crew(draw, net):
    layout = Split(net.shape, *some_split(draw, net.shape))
    order = draw.choice([None, draw.sample(range(len(layout)), len(layout))])
    return Crew(net, layout, order=order)


class WorkTest(unittest.TestCase):
    """A crew gives what its net gives, for any split and any order of the sums."""

    def test_places_and_weights(self):
        draw = random.Random(1)
        for _ in range(120):
            net = some_net(draw, greatest=draw.choice([1, 3, 9]))
            crew = some_crew(draw, net)
            text = [draw.randint(0, net.shape.tokens - 1) for _ in range(draw.randint(1, 7))]
            pairs = worked(net, text)
            for at, token in enumerate(text):
                kept = [kept_row for kept_row, _ in pairs[:at]]
                self.assertEqual(crew.place(kept, token), pairs[at])
                self.assertEqual(crew.place(tuple(kept), token=token), pairs[at])
                passed = listed(kept)
                before = copy.deepcopy(passed)
                self.assertEqual(crew.place(passed, token), pairs[at])
                self.assertEqual(passed, before)
                last = pairs[at][1]
                self.assertEqual(crew.weights(last), net.weights(last))
                self.assertEqual(crew.weights(list(last)), net.weights(last))
            self.assertEqual(worked(crew, text), pairs)

    def test_each_order_of_the_sums(self):
        draw = random.Random(2)
        net = some_net(draw, tokens=3, width=3, layers=2, heads=2, greatest=3)
        layout = Split(net.shape, *some_split(draw, net.shape, 4))
        pairs = worked(net, [1, 2, 0, 1, 2])
        for order in itertools.permutations(range(4)):
            for passed in (order, list(order)):
                crew = Crew(net, layout, order=passed)
                self.assertEqual(crew.order, order)
                self.assertEqual(worked(crew, [1, 2, 0, 1, 2]), pairs)
                self.assertEqual([crew.weights(last) for _, last in pairs], [net.weights(last) for _, last in pairs])

    def test_kinds(self):
        net = some_net(random.Random(3), tokens=3, width=2, layers=2, heads=2)
        crew = some_crew(random.Random(3), net)
        kept = [crew.place([], 1)[0]]
        kept_row, last = crew.place(listed(kept), 2)
        self.assertIsInstance(last, tuple)
        self.assertIsInstance(kept_row, tuple)
        for pairs in kept_row:
            self.assertIsInstance(pairs, tuple)
            for pair in pairs:
                self.assertEqual([isinstance(value, tuple) for value in (pair, *pair)], [True] * 3)
        self.assertIsInstance(crew.weights(last), list)
        self.assertIsInstance(crew.place(kept, 2), tuple)

    def test_the_members_that_the_net_answers(self):
        draw = random.Random(4)
        for _ in range(20):
            net = some_net(draw)
            crew = some_crew(draw, net)
            for token in range(net.shape.tokens):
                for place in (0, 1, 5, 6, 31):
                    self.assertEqual(crew.embedded(token, place), net.embedded(token, place))
                    self.assertEqual(crew.embedded(token=token, place=place), net.embedded(token, place))
            for value in odd_values() + list(net.tokens) + ["", "z", net.tokens, net.tokens[::-1], net.tokens[0] * 3,
                                                            net.tokens + "z", 0, 1]:
                self.assertEqual(crew.number_of(value), net.number_of(value))
                self.assertEqual(crew.numbers(value), net.numbers(value))
            text = [draw.randint(0, net.shape.tokens - 1) for _ in range(5)]
            self.assertEqual((crew.characters(text), crew.characters([])), (net.characters(text), ""))

    def test_plain_answers(self):
        draw = random.Random(5)
        net = example_net()
        request = Request("x", [1, 2], 6)
        for _ in range(5):
            self.assertEqual(plain_answer(some_crew(draw, net), request), plain_answer(net, request))


class PortionTest(unittest.TestCase):
    def test_what_a_machine_keeps(self):
        shape = Shape(3, 1, 2, 2)
        net = some_net(random.Random(6), tokens=3, width=1, layers=2, heads=2)
        things = [thing for thing in shape.things() if thing[0] != "head"]
        machines = [[("head", 1, 1), things[0], ("head", 0, 1), ("head", 1, 0)], [("head", 0, 0)], things[1:]]
        crew = Crew(net, Split(shape, *machines), order=[2, 0, 1])
        row = ((((1,), (2,)), ((3,), (4,))), (((5,), (6,)), ((7,), (8,))))
        told = [
            (((0, 1), ((3,), (4,))), ((1, 0), ((5,), (6,))), ((1, 1), ((7,), (8,)))),
            (((0, 0), ((1,), (2,))),),
            (),
        ]
        for machine, portion in enumerate(told):
            self.assertEqual(crew.portion(row, machine), portion)
            self.assertEqual(crew.portion(listed(row), machine), portion)
        for value in (crew.portion(listed(row), 0), *crew.portion(listed(row), 0)):
            self.assertIsInstance(value, tuple)
        for head, pair in crew.portion(listed(row), 0):
            self.assertEqual([isinstance(value, tuple) for value in (head, pair, *pair)], [True] * 4)
        for portions in itertools.permutations(told):
            self.assertEqual(crew.joined(portions), row)
            self.assertEqual(crew.joined(listed(portions)), row)

    def test_portions_of_made_up_rows_in_any_order(self):
        draw = random.Random(7)
        for _ in range(60):
            net = some_net(draw)
            crew = some_crew(draw, net)
            for kept_row, _ in worked(net, [1, 0, 1]):
                portions = [crew.portion(kept_row, machine) for machine in range(len(crew.layout))]
                for portion in portions:
                    self.assertEqual(portion, tuple(sorted(portion)))
                heads = [(machine, ("head",) + head) for machine, portion in enumerate(portions)
                         for head, _ in portion]
                self.assertEqual(len(heads), net.shape.layers * net.shape.heads)
                self.assertEqual([crew.layout.machine_of(head) for _, head in heads], [at for at, _ in heads])
                draw.shuffle(portions)
                passed = listed(portions)
                before = copy.deepcopy(passed)
                for told in (crew.joined(portions), crew.joined(passed), crew.joined(tuple(portions))):
                    self.assertEqual(told, kept_row)
                    self.assertEqual([isinstance(value, tuple) for value in (told, told[0], told[0][0], told[0][0][0])],
                                     [True] * 4)
                self.assertEqual(passed, before)


class SettingsTest(unittest.TestCase):
    def setUp(self):
        self.net = example_net()
        self.layout = Split(self.net.shape, self.net.shape.things()[:3], self.net.shape.things()[3:], [])

    def test_attributes(self):
        crew = Crew(self.net, self.layout)
        self.assertIs(crew.net, self.net)
        self.assertEqual((crew.layout, crew.tokens, crew.shape), (self.layout, ".ab", Shape(3, 2, 1, 1)))
        self.assertEqual((crew.order, repr(crew)), ((0, 1, 2), "Crew(3 machines)"))
        order = [2, 0, 1]
        crew = Crew(net=self.net, layout=self.layout, order=order)
        order.clear()
        self.assertEqual(crew.order, (2, 0, 1))
        self.assertIsInstance(crew.order, tuple)
        self.assertEqual(repr(Crew(self.net, Split(self.net.shape, self.net.shape.things()))), "Crew(1 machines)")
        self.assertEqual(Crew(self.net, self.layout, order=None).order, (0, 1, 2))

    def test_layouts(self):
        others = [Split(shape, shape.things()) for shape in
                  (Shape(2, 2, 1, 1), Shape(3, 1, 1, 1), Shape(3, 2, 2, 1), Shape(3, 2, 1, 2))]
        for value in odd_values() + others + [0, 1, "", self.net, self.net.shape, self.layout.machines]:
            for order in (None, [0], [7], "rubbish"):
                with self.assertRaises(InvalidSetting) as caught:
                    Crew(self.net, value, order=order)
                self.assertEqual(caught.exception.field, "layout")

    def test_orders(self):
        wrong = [value for value in odd_values() if value is not None]
        wrong += [[0, 1], [0, 1, 2, 2], [0, 1, 1], [0, 1, 3], [-1, 0, 1], [1, 2, 3], [0, 1, 2, 3], ["0", "1", "2"],
                  [0, True, 2], [False, 1, 2], [0, 1, None], [0, [1], 2], "012", 0, 12, [[0, 1, 2]], ([0], [1], [2]),
                  self.layout, [999999999, 0, 1]]
        for order in wrong:
            with self.assertRaises(InvalidOrder):
                Crew(self.net, self.layout, order=order)

    def test_another_net_of_the_same_shape(self):
        other = some_net(random.Random(8), tokens=3, width=2, layers=1, heads=1)
        self.assertEqual(worked(Crew(other, self.layout), [1, 2]), worked(other, [1, 2]))


class EngineTest(unittest.TestCase):
    """The same rounds, lines, counts, pages and tails as over the net."""

    def state(self, engine):
        return (
            engine.rounds, engine.worked, engine.reused, engine.suspended, engine.peak, engine.standing,
            engine.pages(), engine.tails(), engine.live(), engine.disk.content, engine.disk.synced,
            [(name, engine.status(name), engine.held(name), engine.delivered(name)) for name in engine.names()],
        )

    def test_round_by_round(self):
        crashes = 0
        for seed in range(40):
            draw, net, requests, settings = some_case(seed)
            crew = some_crew(draw, net)
            ours = dict(settings)
            if isinstance(settings["drafter"], Foresight):
                ours["drafter"] = Foresight(crew, settings["drafter"].most)
            engines = [Engine(net, Disk(), **settings), Engine(crew, Disk(), **ours)]
            self.assertIs(engines[1].net, crew)
            waiting = list(requests)
            while waiting or engines[0].live():
                if waiting and draw.random() < 0.6:
                    request = waiting.pop(0)
                    told = [engine.submit(request) for engine in engines]
                elif draw.random() < 0.1:
                    # Both crash at the same step, and go on from their disks.
                    stop = draw.randint(0, 3)
                    told = []
                    for at, engine in enumerate(engines):
                        try:
                            told.append(engine.advance(stop=stop))
                        except Crashed:
                            told.append("crashed")
                            crashes += 1
                            engine.disk.fall(1, 4)
                            engines[at] = Engine([net, crew][at], engine.disk, **[settings, ours][at])
                else:
                    told = [engine.advance() for engine in engines]
                self.assertEqual(told[0], told[1])
                self.assertEqual(self.state(engines[0]), self.state(engines[1]))
                self.assertTrue(audit(net, "".join(line + "\n" for line in engines[1].disk.lines())))
        self.assertGreater(crashes, 20)

    def test_alone_and_the_example_of_the_document(self):
        net = example_net()
        crew = Crew(net, Split(net.shape, *[[thing] for thing in net.shape.things()[:4]], net.shape.things()[4:]))
        engine = Engine(crew, Disk(), page=2, room=4, budget=3)
        for request in (Request("x", [1, 2], 6), Request("y", [1, 1, 2], 6)):
            engine.submit(request)
            self.assertEqual(Engine.alone(crew, request), Engine.alone(net, request))
        self.assertEqual([engine.finish(), engine.worked, engine.reused, engine.suspended, engine.peak],
                         [10, 19, 4, 1, 4])

    def test_foresight(self):
        draw = random.Random(9)
        for _ in range(30):
            net = some_net(draw)
            text = [draw.randint(1, net.shape.tokens - 1) for _ in range(3)]
            self.assertEqual(Foresight(some_crew(draw, net))(text), Foresight(net)(text))
            self.assertEqual(Foresight(some_crew(draw, net), 2)(text), Foresight(net, 2)(text))


if __name__ == "__main__":
    unittest.main()
