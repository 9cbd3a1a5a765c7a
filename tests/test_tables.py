"""Rows and tables: [5]."""

import itertools
import random
import unittest

from answersalone.tables import added, cut, dot, raised, times

HUGE = 10 ** 60


class TimesTest(unittest.TestCase):
    def test_by_the_words(self):
        self.assertEqual(times([[1, 2], [3, 4]], [5, 6]), (17, 39))
        self.assertEqual(times([[0, 1], [0, 0]], [5, 6]), (6, 0))
        self.assertEqual(times([[-7]], [3]), (-21,))

    def test_an_item_is_told_by_a_row_of_the_table(self):
        for width in range(1, 5):
            for line, column in itertools.product(range(width), repeat=2):
                table = [[0] * width for _ in range(width)]
                table[line][column] = 1
                row = list(range(10, 10 + width))
                expected = [0] * width
                expected[line] = row[column]
                self.assertEqual(times(table, row), tuple(expected))

    def test_against_sums(self):
        draw = random.Random(5)
        for _ in range(60):
            width = draw.randint(1, 4)
            table = [[draw.randint(-HUGE, HUGE) for _ in range(width)] for _ in range(width)]
            row = [draw.randint(-HUGE, HUGE) for _ in range(width)]
            expected = []
            for line in table:
                total = 0
                for index in range(width):
                    total += line[index] * row[index]
                expected.append(total)
            self.assertEqual(times(table, row), tuple(expected))
            self.assertEqual(times(tuple(map(tuple, table)), tuple(row)), tuple(expected))


class RowsTest(unittest.TestCase):
    def test_added(self):
        self.assertEqual(added([1, -2], [3, -4]), (4, -6))
        self.assertEqual(added((HUGE, 1, 0), [HUGE, -1, 0]), (2 * HUGE, 0, 0))

    def test_cut(self):
        self.assertEqual(cut([-6, -5, -4, -1, 0, 1, 4, 5, 6], 5), (-5, -5, -4, -1, 0, 1, 4, 5, 5))
        self.assertEqual(cut((HUGE, -HUGE), 99), (99, -99))
        self.assertEqual(cut((HUGE, -HUGE, HUGE + 1), HUGE), (HUGE, -HUGE, HUGE))
        self.assertEqual(cut([2, -2, 1], 1), (1, -1, 1))

    def test_dot(self):
        self.assertEqual(dot([1, 2, 3], [4, 5, -6]), -4)
        self.assertEqual(dot((HUGE,), [HUGE]), HUGE * HUGE)
        self.assertEqual(dot([0, 0], [7, 9]), 0)

    def test_raised(self):
        self.assertEqual(raised([-1, 0, 1, -HUGE, HUGE]), (0, 0, 1, 0, HUGE))
        self.assertEqual(raised((-3,)), (0,))

    def test_results_are_tuples(self):
        for result in [times([[1]], [2]), added([1], [2]), cut([1], 1), raised([1])]:
            self.assertIsInstance(result, tuple)

    def test_arguments_stay(self):
        table = [[1, -2], [3, 4]]
        one = [5, -6]
        other = [-7, 8]
        times(table, one)
        added(one, other)
        cut(one, 1)
        dot(one, other)
        raised(one)
        self.assertEqual((table, one, other), ([[1, -2], [3, 4]], [5, -6], [-7, 8]))

    def test_by_name(self):
        self.assertEqual(times(row=[2], table=[[3]]), (6,))
        self.assertEqual(added(other=[2], one=[3]), (5,))
        self.assertEqual(cut(cap=1, row=[3]), (1,))
        self.assertEqual(dot(other=[2], one=[3]), 6)
        self.assertEqual(raised(row=[3]), (3,))


if __name__ == "__main__":
    unittest.main()
