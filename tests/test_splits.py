"""Things, machines, splits and parting nets: [36] and [37]."""

import copy
import itertools
import random
import unittest

from answersalone.errors import InvalidSetting, InvalidSplit, InvalidThing
from answersalone.nets import Net
from answersalone.plain import worked
from answersalone.shapes import Shape
from answersalone.splits import Split, is_thing, parting_net, summed, wrong_thing

from netmodel import listed, product
from samples import example_net, some_net, some_parts
from standin import odd_values

SMALL = Shape(2, 1, 1, 1)
GREAT = Shape(6, 4, 3, 2)


def all_shapes():
    return [Shape(*sizes) for sizes in itertools.product(range(2, 7), range(1, 5), range(1, 4), range(1, 3))]


def some_split(draw, shape, many=None):
    """Machines in which each thing stands just once, as lists."""
    machines = [[] for _ in range(draw.randint(1, 5) if many is None else many)]
    for thing in draw.sample(shape.things(), len(shape.things())):
        draw.choice(machines).append(thing)
    return machines


def summed_by_the_words(parts, machines, token):
    """The last row and the weights of [36] for one token."""
    cap = parts["cap"]

    def cutting(row):
        return [min(cap, max(-cap, number)) for number in row]

    x = cutting([one + other for one, other in zip(parts["token_rows"][token], parts["place_rows"][0])])
    for layer, (heads, up, down) in enumerate(parts["layers"]):
        things = [thing for machine in machines for thing in machine]
        told = [product(heads[number][2], x) for kind, at, number in things if (kind, at) == ("head", layer)]
        x = cutting([sum(row[at] for row in [x] + told) for at in range(len(x))])
        told = []
        for kind, at, number in things:
            if (kind, at) == ("unit", layer):
                raised = max(0, sum(one * other for one, other in zip(up[number], x)))
                told.append([down[row][number] * raised for row in range(len(x))])
        x = cutting([sum(row[at] for row in [x] + told) for at in range(len(x))])
    weights = []
    for token in range(len(parts["tokens"])):
        many = sum(thing[2] == token and thing[0] == "out" for machine in machines for thing in machine)
        weight = sum(one * other for one, other in zip(parts["out_rows"][token], x)) + parts["base"][token]
        weights.append(max(0, many * weight))
    return tuple(x), tuple(weights)


class ThingsTest(unittest.TestCase):
    def test_all_things_of_all_shapes(self):
        kinds = ["head", "unit", "out", "heads", ""]
        for shape in [SMALL, GREAT, Shape(3, 2, 2, 1), Shape(2, 4, 1, 2), Shape(6, 1, 3, 1)]:
            things = shape.things()
            for value in itertools.product(kinds, range(-1, 5), range(-1, 8)):
                self.assertIs(is_thing(shape, value), value in things)
                self.assertIs(is_thing(shape, list(value)), value in things)

    def test_beyond_the_shape(self):
        shape = Shape(3, 2, 2, 1)
        for thing in [("head", 1, 0), ("unit", 1, 1), ("out", 0, 2)]:
            self.assertTrue(is_thing(shape, thing))
        for thing in [("head", 2, 0), ("head", 0, 1), ("unit", 2, 0), ("unit", 0, 2), ("out", 1, 0), ("out", 0, 3),
                      ("head", -1, 0), ("head", 0, -1), ("out", 0, 999999999), ("unit", 999999999, 0)]:
            self.assertFalse(is_thing(shape, thing), thing)

    def test_any_value(self):
        right = ["head", 0, 0]
        for at in range(3):
            for value in odd_values() + [SMALL, "", "0", "head", 7, -1, ("head",)]:
                spoilt = list(right)
                spoilt[at] = value
                self.assertEqual(is_thing(GREAT, spoilt), at == 0 and value == "head", spoilt)
                self.assertEqual(is_thing(GREAT, tuple(spoilt)), at == 0 and value == "head", spoilt)
        for value in odd_values() + ["head", "out", 0, -3, SMALL, ("head", 0), ("head", 0, 0, 0), ["out"], "abc",
                                     (0, 0, 0), [("head", 0, 0)], ("head", ("head", 0, 0), 0), (0, 0, "head")]:
            self.assertIs(is_thing(GREAT, value), False)

    def test_true_and_false_are_no_numbers(self):
        for thing in [("head", False, 0), ("head", 0, False), ("unit", 0, True), ("unit", True, 0), ("out", False, 1),
                      ("out", 0, True), ["out", 0, False]]:
            self.assertFalse(is_thing(GREAT, thing), thing)


class WrongThingTest(unittest.TestCase):
    def test_the_example_of_the_document(self):
        machines = [[("unit", 0, 0), ("out", 0, 1)], [("out", 0, 0)]]
        thing = wrong_thing(SMALL, machines)
        self.assertEqual(thing, ("head", 0, 0))
        self.assertEqual(summed(parting_net(SMALL, thing), machines, 1), ((1,), (0, 0)))
        self.assertEqual(summed(parting_net(SMALL, thing), [SMALL.things()], 1), ((2,), (0, 0)))

    def test_the_first_in_the_order_of_the_things(self):
        shape = Shape(3, 2, 2, 1)
        things = shape.things()
        self.assertIsNone(wrong_thing(shape, [things]))
        self.assertIsNone(wrong_thing(shape, [[thing] for thing in things[::-1]]))
        self.assertEqual(wrong_thing(shape, []), things[0])
        self.assertEqual(wrong_thing(shape, [[], []]), things[0])
        for first, second in itertools.combinations(range(len(things)), 2):
            machines = [things[first + 1:second], things[:first] + things[second + 1:]]
            self.assertEqual(wrong_thing(shape, machines), things[first])
            self.assertEqual(wrong_thing(shape, [things, [things[second], things[first]]]), things[first])
            self.assertEqual(wrong_thing(shape, [things, [things[second]] * 2]), things[second])

    def test_twice_in_one_machine_or_in_two(self):
        things = SMALL.things()
        for thing in things:
            self.assertEqual(wrong_thing(SMALL, [things + [thing]]), thing)
            self.assertEqual(wrong_thing(SMALL, [things, [], [thing]]), thing)

    def test_lists_and_tuples(self):
        machines = [[list(thing) for thing in SMALL.things()]]
        before = copy.deepcopy(machines)
        self.assertIsNone(wrong_thing(SMALL, machines))
        self.assertIsNone(wrong_thing(SMALL, (tuple(machines[0]),)))
        self.assertEqual(machines, before)
        told = wrong_thing(SMALL, [machines[0] + [["unit", 0, 0]]])
        self.assertEqual(told, ("unit", 0, 0))
        self.assertIsInstance(told, tuple)


class SummedTest(unittest.TestCase):
    def test_splits_give_what_the_net_gives(self):
        draw = random.Random(1)
        for _ in range(150):
            net = some_net(draw, greatest=draw.choice([1, 3, 9]))
            machines = some_split(draw, net.shape, draw.choice([None, 1, 9]))
            for token in range(net.shape.tokens):
                last = worked(net, [token])[0][1]
                self.assertEqual(summed(net, machines, token), (last, tuple(net.weights(last))))

    def test_any_machines(self):
        draw = random.Random(2)
        parted = 0
        for _ in range(200):
            parts = some_parts(draw, greatest=draw.choice([1, 3]))
            net = Net(**parts)
            machines = some_split(draw, net.shape)
            for _ in range(draw.randint(1, 4)):
                machine = draw.choice(machines)
                if machine and draw.random() < 0.5:
                    machine.remove(draw.choice(machine))
                else:
                    machine.append(draw.choice(net.shape.things()))
            token = draw.randint(0, net.shape.tokens - 1)
            told = summed(net, machines, token)
            self.assertEqual(told, summed_by_the_words(parts, machines, token))
            last = worked(net, [token])[0][1]
            parted += told != (last, tuple(net.weights(last)))
        self.assertGreater(parted, 50)

    def test_no_machines_and_empty_ones(self):
        net = example_net()
        for machines in [[], [[]], [[], [], []], (), ([], ())]:
            self.assertEqual([summed(net, machines, token) for token in range(3)],
                             [((-1, -1), (0, 0, 0)), ((0, -1), (0, 0, 0)), ((0, 0), (0, 0, 0))])

    def test_an_out_twice(self):
        net = example_net()
        machines = [net.shape.things() + [("out", 0, 2)], [("out", 0, 1)], [("out", 0, 1)]]
        # The weights of the last row (0, -2) are 0, 1 and 0 (-1 ahead of being replaced).
        self.assertEqual(summed(net, machines, 1), ((0, -2), (0, 3, 0)))

    def test_sums_are_taken_ahead_of_cutting(self):
        # The heads tell 9 and -9, the unit tells more than the cap and is cut with the rest.
        one, minus, nothing = [[1]], [[-1]], [[0]]
        heads = [[nothing, nothing, [[9]]], [nothing, nothing, [[-9]]]]
        net = Net(".a", 5, [[0], [1]], [[0]], [[heads, [[9]], minus]], [[1], [-1]], [0, 0])
        split = [[("head", 0, 0)], [("head", 0, 1), ("out", 0, 0)], [("unit", 0, 0), ("out", 0, 1)]]
        self.assertEqual(summed(net, split, 1), ((-5,), (0, 5)))
        # Without the second head: 1 + 9 is cut to 5, the unit tells -45.
        self.assertEqual(summed(net, [split[0], split[2]], 1), ((-5,), (0, 5)))
        net = Net(".a", 5, [[0], [1]], [[0]], [[heads, one, minus]], [[1], [-1]], [0, 0])
        self.assertEqual(summed(net, split, 1), ((0,), (0, 0)))
        self.assertEqual(summed(net, split + [[("unit", 0, 0), ("out", 0, 1)]], 1), ((-1,), (0, 2)))

    def test_lists_at_all_depths_and_kinds(self):
        draw = random.Random(3)
        net = some_net(draw, tokens=3, width=3, layers=2, heads=2)
        machines = some_split(draw, net.shape, 3)
        told = summed(net, machines, 1)
        passed = listed(machines)
        before = copy.deepcopy(passed)
        self.assertEqual(summed(net, passed, 1), told)
        self.assertEqual(summed(net, tuple(tuple(machine) for machine in machines), 1), told)
        self.assertEqual(passed, before)
        self.assertEqual([isinstance(value, tuple) for value in (told, *told)], [True] * 3)


class PartingTest(unittest.TestCase):
    def test_each_thing_of_some_shapes_by_the_words(self):
        for shape in [SMALL, GREAT, Shape(3, 2, 2, 1), Shape(4, 3, 1, 2)]:
            width = shape.width
            for thing in shape.things():
                kind, layer, number = thing
                net = parting_net(shape, thing)
                self.assertEqual(net.shape, shape)
                self.assertEqual((net.tokens, net.cap), (".abcde"[:shape.tokens], 99))
                first = 0 if kind == "out" else 1
                self.assertEqual(net.token_rows, ((first,) + (0,) * (width - 1),) * shape.tokens)
                self.assertEqual(net.place_rows, ((0,) * width,))
                self.assertEqual(net.out_rows, ((0,) * width,) * shape.tokens)
                self.assertEqual(net.base, tuple(int((kind, number) == ("out", a)) for a in range(shape.tokens)))
                ones = []
                for at, (heads, up, down) in enumerate(net.layers):
                    for head, tables in enumerate(heads):
                        for word, table in zip(["query", "key", "value"], tables):
                            ones += [(at, word, head, row, item, table[row][item]) for row in range(width)
                                     for item in range(width) if table[row][item]]
                    ones += [(at, word, row, item, table[row][item]) for word, table in [("up", up), ("down", down)]
                             for row in range(width) for item in range(width) if table[row][item]]
                expected = {"head": [(layer, "value", number, 0, 0, 1)], "out": [],
                            "unit": [(layer, "up", number, 0, 1), (layer, "down", 0, number, 1)]}[kind]
                self.assertEqual(ones, expected)
                self.assertEqual(parting_net(shape, list(thing)), net)

    def test_it_parts_machines_that_are_no_split(self):
        draw = random.Random(4)
        parted = 0
        for _ in range(250):
            shape = draw.choice(all_shapes())
            machines = some_split(draw, shape)
            for _ in range(draw.randint(1, 3)):
                machine = draw.choice(machines)
                if machine and draw.random() < 0.5:
                    machine.remove(draw.choice(machine))
                else:
                    machine.extend([draw.choice(shape.things())] * draw.randint(1, 4))
            for thing in shape.things():
                net = parting_net(shape, thing)
                last = worked(net, [1])[0][1]
                row, weights = summed(net, machines, 1)
                many = sum(machine.count(thing) for machine in machines)
                told = (row == last) if thing[0] != "out" else (list(weights) == net.weights(last))
                self.assertEqual(told, many == 1, (shape, thing, many))
                parted += many != 1
        self.assertGreater(parted, 200)

    def test_for_each_thing_of_each_shape_alone(self):
        for shape in all_shapes():
            things = shape.things()
            for thing in [things[0], things[shape.heads], things[-1]]:
                net = parting_net(shape, thing)
                last = worked(net, [1])[0][1]
                for machines in [[[other for other in things if other != thing]], [things, [thing]]]:
                    self.assertEqual(wrong_thing(shape, machines), thing)
                    self.assertNotEqual(summed(net, machines, 1), (last, tuple(net.weights(last))))
                self.assertEqual(summed(net, [things[::2], things[1::2]], 1), (last, tuple(net.weights(last))))


class SplitTest(unittest.TestCase):
    def test_attributes(self):
        machines = [[list(thing) for thing in SMALL.things()[:2]], (), [("out", 0, 1), ["out", 0, 0]]]
        split = Split(SMALL, *machines)
        expected = ((("head", 0, 0), ("unit", 0, 0)), (), (("out", 0, 1), ("out", 0, 0)))
        self.assertEqual((split.shape, split.machines), (SMALL, expected))
        # The lists are copied.
        machines[0][0][0] = "out"
        machines[0].clear()
        machines[2].append(("head", 0, 0))
        machines[2][1][2] = 7
        self.assertEqual(split.machines, expected)
        self.assertEqual((len(split), repr(split)), (3, "Split(3 machines)"))
        for value in (split.machines, *split.machines, *split.machines[0]):
            self.assertIsInstance(value, tuple)

    def test_the_order_of_the_things_stays(self):
        draw = random.Random(5)
        for _ in range(40):
            shape = draw.choice(all_shapes())
            machines = some_split(draw, shape)
            split = Split(shape, *machines)
            self.assertEqual(split.machines, tuple(tuple(machine) for machine in machines))
            self.assertEqual((len(split), repr(split)), (len(machines), f"Split({len(machines)} machines)"))
            for at, machine in enumerate(machines):
                for thing in machine:
                    self.assertEqual(split.machine_of(thing), at)
                    self.assertEqual(split.machine_of(list(thing)), at)

    def test_machine_of_any_value(self):
        split = Split(SMALL, SMALL.things())
        for value in odd_values() + [0, "", "head", ("head", 1, 0), ("head", 0, 1), ("head", 0, False), ["out", 0, 2],
                                     ("out", True, 0), ("head", 0), split, [("head", 0, 0)], ([], 0, 0)]:
            self.assertIsNone(split.machine_of(value))
        self.assertEqual(split.machine_of(("out", 0, 1)), 0)

    def test_equality(self):
        split = Split(SMALL, [("head", 0, 0), ("unit", 0, 0)], [("out", 0, 0), ("out", 0, 1)])
        self.assertEqual(split, Split(SMALL, (("head", 0, 0), ["unit", 0, 0]), [("out", 0, 0), ("out", 0, 1)]))
        self.assertEqual(split, Split(Shape(2, 1, 1, 1), *split.machines))
        others = [
            Split(SMALL, [("unit", 0, 0), ("head", 0, 0)], [("out", 0, 0), ("out", 0, 1)]),
            Split(SMALL, [("out", 0, 0), ("out", 0, 1)], [("head", 0, 0), ("unit", 0, 0)]),
            Split(SMALL, [("head", 0, 0), ("unit", 0, 0)], [("out", 0, 0), ("out", 0, 1)], []),
            Split(SMALL, SMALL.things()),
            Split(Shape(2, 1, 1, 2), Shape(2, 1, 1, 2).things()),
            split.machines, SMALL, None, (SMALL, split.machines), 2,
        ]
        for other in others:
            self.assertNotEqual(split, other)
            self.assertFalse(split == other)

    def test_one_to_five_machines(self):
        things = SMALL.things()
        for many in (1, 2, 3, 4, 5):
            self.assertEqual(len(Split(SMALL, things, *[[]] * (many - 1))), many)
        for machines in [[], [things] + [[]] * 5, [[]] * 6, [None] * 6, [7] * 400]:
            with self.assertRaises(InvalidSetting) as caught:
                Split(SMALL, *machines)
            self.assertEqual(caught.exception.field, "machines")

    def test_the_first_machine_and_item_that_is_wrong(self):
        things = SMALL.things()
        wrong = [
            ([None], 0, -1), ([things, None], 1, -1), ([things, "head"], 1, -1), ([7, None], 0, -1),
            ([("head", 0, 0)], 0, 0), ([things + [None]], 0, 4), ([things, [("head", 0, 1)]], 1, 0),
            ([[], [("out", 0, 0), ("out", 0, 2), None], None], 1, 1), ([[things]], 0, 0),
            ([[("head", 0, False)], things], 0, 0), ([things, [], [], [], {}], 4, -1),
            ([[("out", 0, 0), ["out", 0, 1, 0]]], 0, 1), ([[], SMALL], 1, -1), ([True, []], 0, -1),
            ([[("unit", 0, 0), ("unit", 0, 0), ("unit", 1, 0)]], 0, 2), ([Split(SMALL, things)], 0, -1),
        ]
        for machines, machine, at in wrong:
            with self.assertRaises(InvalidThing) as caught:
                Split(SMALL, *machines)
            self.assertEqual((caught.exception.machine, caught.exception.at), (machine, at), machines)
        for value in odd_values():
            if not isinstance(value, (list, tuple)):
                with self.assertRaises(InvalidThing) as caught:
                    Split(SMALL, things, value)
                self.assertEqual((caught.exception.machine, caught.exception.at), (1, -1))
            with self.assertRaises(InvalidThing) as caught:
                Split(SMALL, things[:2], [("out", 0, 0), value, None])
            self.assertEqual((caught.exception.machine, caught.exception.at), (1, 1))

    def test_a_thing_that_does_not_stand_just_once(self):
        shape = Shape(3, 2, 2, 1)
        things = shape.things()
        for at, thing in enumerate(things):
            for machines in [[things[:at] + things[at + 1:]], [things, [thing]], [things + [thing]],
                             [things[:at], things[at + 1:-1]], [things, [], things[at:]]]:
                with self.assertRaises(InvalidSplit) as caught:
                    Split(shape, *machines)
                error = caught.exception
                self.assertEqual((error.kind, error.layer, error.number), thing)
        with self.assertRaises(InvalidSplit) as caught:
            Split(shape, [], [])
        self.assertEqual(caught.exception.kind, "head")


if __name__ == "__main__":
    unittest.main()
