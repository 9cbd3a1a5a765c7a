"""Shapes and their things: parts of [3], [4] and [36]."""

import itertools
import unittest

from answersalone.errors import InvalidSetting
from answersalone.shapes import Shape

from standin import odd_values

FIELDS = ["tokens", "width", "layers", "heads"]
BOUNDS = {"tokens": (2, 6), "width": (1, 4), "layers": (1, 3), "heads": (1, 2)}


def all_shapes():
    return itertools.product(range(2, 7), range(1, 5), range(1, 4), range(1, 3))


class ShapeTest(unittest.TestCase):
    def test_attributes(self):
        for numbers in all_shapes():
            shape = Shape(*numbers)
            self.assertEqual(tuple(getattr(shape, field) for field in FIELDS), numbers)
            self.assertEqual(repr(shape), "Shape({}, {}, {}, {})".format(*numbers))
            self.assertEqual(Shape(**dict(zip(FIELDS, numbers))), shape)

    def test_equal(self):
        for numbers in all_shapes():
            self.assertTrue(Shape(*numbers) == Shape(*numbers))
            for at in range(4):
                least, most = BOUNDS[FIELDS[at]]
                other = list(numbers)
                other[at] = least if numbers[at] == most else numbers[at] + 1
                self.assertFalse(Shape(*numbers) == Shape(*other))
                self.assertTrue(Shape(*numbers) != Shape(*other))
        self.assertFalse(Shape(3, 2, 1, 1) == (3, 2, 1, 1))
        self.assertFalse(Shape(3, 2, 1, 1) == "Shape(3, 2, 1, 1)")


class ThingsTest(unittest.TestCase):
    def test_order(self):
        self.assertEqual(Shape(3, 2, 2, 1).things(), [
            ("head", 0, 0), ("unit", 0, 0), ("unit", 0, 1),
            ("head", 1, 0), ("unit", 1, 0), ("unit", 1, 1),
            ("out", 0, 0), ("out", 0, 1), ("out", 0, 2),
        ])
        self.assertEqual(Shape(2, 1, 1, 2).things(), [
            ("head", 0, 0), ("head", 0, 1), ("unit", 0, 0), ("out", 0, 0), ("out", 0, 1),
        ])

    def test_all(self):
        for tokens, width, layers, heads in all_shapes():
            expected = []
            for layer in range(layers):
                expected += [("head", layer, number) for number in range(heads)]
                expected += [("unit", layer, number) for number in range(width)]
            expected += [("out", 0, number) for number in range(tokens)]
            self.assertEqual(Shape(tokens, width, layers, heads).things(), expected)

    def test_the_list_is_new(self):
        shape = Shape(3, 2, 1, 1)
        shape.things().clear()
        self.assertEqual(len(shape.things()), 6)
        self.assertIsInstance(shape.things(), list)
        self.assertIsInstance(shape.things()[0], tuple)


class BoundsTest(unittest.TestCase):
    def refused(self, field, numbers):
        with self.assertRaises(InvalidSetting) as caught:
            Shape(*numbers)
        self.assertEqual(caught.exception.field, field)

    def test_each_field(self):
        for at, field in enumerate(FIELDS):
            least, most = BOUNDS[field]
            for value in [least - 1, most + 1, -1, 10 ** 9, "1", "", "2"] + odd_values():
                numbers = [2, 1, 1, 1]
                numbers[at] = value
                self.refused(field, numbers)

    def test_the_first_wrong_word_counts(self):
        right = [2, 1, 1, 1]
        for wrong in itertools.product([False, True], repeat=4):
            if any(wrong):
                numbers = [True if bad else good for bad, good in zip(wrong, right)]
                self.refused(FIELDS[wrong.index(True)], numbers)


if __name__ == "__main__":
    unittest.main()
