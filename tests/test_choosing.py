"""Choosing: [8]."""

import itertools
import unittest

from answersalone.choosing import choose, draw_number


def chosen(weights, allowed, knob, seed, place):
    """The token that [8] tells, straight by its words."""
    if allowed is None:
        allowed = list(range(len(weights)))
    counted = {a: (weights[a] if a in allowed else 0) for a in range(len(weights))}
    if set(counted.values()) == {0}:
        return min(allowed)
    if knob == "best":
        return sorted(counted, key=lambda a: (-counted[a], a))[0]
    r = (seed * 40503 + place * 30011 + 12345) % 65521 % sum(counted.values())
    return [a for a in counted if sum(counted[b] for b in range(a + 1)) > r][0]


class DrawNumberTest(unittest.TestCase):
    def test_numbers(self):
        table = [
            (0, 0, 12345), (1, 0, 52848), (0, 1, 42356), (0, 2, 6846), (1, 1, 17338), (10003, 31, 60558),
        ]
        for seed, place, number in table:
            self.assertEqual(draw_number(seed, place), number)

    def test_the_formula(self):
        for seed in list(range(0, 10004, 271)) + [10003]:
            for place in range(33):
                number = draw_number(seed, place)
                self.assertEqual(number, (seed * 40503 + place * 30011 + 12345) % 65521)

    def test_by_name(self):
        self.assertEqual(draw_number(place=1, seed=0), 42356)
        self.assertEqual(draw_number(0, place=2), 6846)


class ChooseTest(unittest.TestCase):
    def test_best(self):
        self.assertEqual(choose([0, 1, 3]), 2)
        self.assertEqual(choose([5, 1, 3]), 0)
        self.assertEqual(choose([7]), 0)
        self.assertEqual(choose((2, 9, 3, 4)), 1)

    def test_best_of_equal_weights(self):
        self.assertEqual(choose([0, 1, 1]), 1)
        self.assertEqual(choose([4, 4, 4]), 0)
        self.assertEqual(choose([4, 4, 4], allowed=[1, 2]), 1)
        self.assertEqual(choose([1, 4, 0, 4]), 1)

    def test_best_of_the_allowed(self):
        self.assertEqual(choose([9, 1, 3, 5], allowed=[1, 2]), 2)
        self.assertEqual(choose([9, 1, 3, 5], allowed=(0, 1)), 0)
        self.assertEqual(choose([9, 1, 3, 5], allowed=[3]), 3)
        self.assertEqual(choose([9, 1, 3, 5], allowed=None), 0)

    def test_all_weights_are_0(self):
        for knob in ("best", "draw"):
            self.assertEqual(choose([0, 0, 0], knob=knob, seed=3, place=5), 0)
            self.assertEqual(choose([0, 0, 0], allowed=[1, 2], knob=knob, seed=3, place=5), 1)
            self.assertEqual(choose([8, 0, 0], allowed=[2], knob=knob, seed=3, place=5), 2)
            self.assertEqual(choose([8, 0, 0, 6], allowed=[1, 2], knob=knob, seed=4, place=1), 1)
            self.assertEqual(choose([0], knob=knob), 0)

    def test_draw(self):
        # 12345 mod 8 is 1, 52848 mod 8 is 0, 42356 mod 8 is 4, 6846 mod 8 is 6.
        weights = [1, 2, 2, 3]
        self.assertEqual(choose(weights, knob="draw"), 1)
        self.assertEqual(choose(weights, knob="draw", seed=1), 0)
        self.assertEqual(choose(weights, knob="draw", place=1), 2)
        self.assertEqual(choose(weights, knob="draw", seed=0, place=2), 3)

    def test_draw_of_the_allowed(self):
        # Of the weights 2 and 3: 12345 mod 5 is 0, 52848 mod 5 is 3.
        self.assertEqual(choose([1, 2, 2, 3], allowed=[1, 3], knob="draw"), 1)
        self.assertEqual(choose([1, 2, 2, 3], allowed=[1, 3], knob="draw", seed=1), 3)
        self.assertEqual(choose([4, 0, 0, 3], allowed=[1, 3], knob="draw"), 3)

    def test_by_the_formula(self):
        rows = [[0, 1, 3], [1, 1, 1], [0, 0, 2, 0], [3, 0, 5, 1, 9], [99, 98], [0, 0], [5], [10 ** 30, 10 ** 31, 7]]
        for weights in rows:
            tokens = range(len(weights))
            subsets = [list(s) for n in range(1, len(weights) + 1) for s in itertools.combinations(tokens, n)]
            for allowed in [None] + subsets:
                for knob in ("best", "draw"):
                    for seed, place in itertools.product((0, 1, 77, 9999, 10003), (0, 1, 16, 31)):
                        self.assertEqual(
                            choose(weights, allowed=allowed, knob=knob, seed=seed, place=place),
                            chosen(weights, allowed, knob, seed, place),
                        )

    def test_best_needs_no_seed_and_no_place(self):
        for seed, place in itertools.product((0, 5, 10003), (0, 9)):
            self.assertEqual(choose([2, 3, 3], knob="best", seed=seed, place=place), 1)

    def test_by_name_and_by_position(self):
        self.assertEqual(choose(place=1, seed=0, knob="draw", allowed=None, weights=[1, 2, 2, 3]), 2)
        self.assertEqual(choose([1, 2, 2, 3], seed=0, knob="best", place=0, allowed=None), choose([1, 2, 2, 3]))
        with self.assertRaises(TypeError):
            choose([1, 2], [0])

    def test_the_lists_stay(self):
        weights = [3, 0, 2]
        allowed = [1, 2]
        for knob in ("best", "draw"):
            choose(weights, allowed=allowed, knob=knob, seed=2, place=3)
            choose(weights, knob=knob)
        self.assertEqual((weights, allowed), ([3, 0, 2], [1, 2]))


if __name__ == "__main__":
    unittest.main()
