"""Shares: [38]."""

import random
import unittest
from fractions import Fraction

from answersalone.answers import Answer
from answersalone.errors import InvalidWeights
from answersalone.shares import Share

HUGE = 10 ** 40 + 7
VALUES = [(0, 1), (1, 1), (-1, 1), (3, 4), (-3, 4), (1, 2), (7, 3), (-7, 3), (5, 1), (1, 999999999), (HUGE, 3),
          (3, HUGE), (-HUGE, HUGE - 1), (999999999, 999999998)]


def fraction_of(share):
    return Fraction(share.top, share.bottom)


class LowestTermsTest(unittest.TestCase):
    def test_signs_and_common_divisors(self):
        for top, bottom, told in [
            (3, 4, (3, 4)), (6, 8, (3, 4)), (-6, 8, (-3, 4)), (6, -8, (-3, 4)), (-6, -8, (3, 4)), (0, 5, (0, 1)),
            (0, -5, (0, 1)), (0, 1, (0, 1)), (4, 2, (2, 1)), (4, -2, (-2, 1)), (5, 5, (1, 1)), (5, -5, (-1, 1)),
            (7, 1, (7, 1)), (-7, -1, (7, 1)), (12, 18, (2, 3)), (18, 12, (3, 2)),
        ]:
            share = Share(top, bottom)
            self.assertEqual((share.top, share.bottom), told)
        self.assertEqual([Share(5).top, Share(5).bottom, Share(0).bottom, Share(top=-2).bottom], [5, 1, 1, 1])
        self.assertEqual(Share(bottom=6, top=4), Share(2, 3))

    def test_numbers_of_any_size(self):
        draw = random.Random(1)
        for _ in range(300):
            top = draw.randint(-10 ** draw.choice([1, 3, 9, 60]), 10 ** draw.choice([1, 3, 9, 60]))
            bottom = draw.choice([-1, 1]) * draw.randint(1, 10 ** draw.choice([1, 3, 9, 60]))
            common = draw.randint(1, 10 ** draw.choice([0, 5, 40]))
            share = Share(top * common, bottom * common)
            self.assertEqual((share.top, share.bottom), (Fraction(top, bottom).numerator,
                                                         Fraction(top, bottom).denominator))


class OperatorsTest(unittest.TestCase):
    def pairs(self):
        draw = random.Random(2)
        found = [(Share(*one), Share(*other)) for one in VALUES for other in VALUES]
        for _ in range(200):
            found.append(tuple(Share(draw.randint(-30, 30), draw.choice([-1, 1]) * draw.randint(1, 30))
                               for _ in range(2)))
        return found

    def check(self, share, fraction):
        self.assertIsInstance(share, Share)
        self.assertEqual((share.top, share.bottom), (fraction.numerator, fraction.denominator))

    def test_sums_differences_and_products(self):
        for one, other in self.pairs():
            before = (one.top, one.bottom, other.top, other.bottom)
            self.check(one + other, fraction_of(one) + fraction_of(other))
            self.check(one - other, fraction_of(one) - fraction_of(other))
            self.check(one * other, fraction_of(one) * fraction_of(other))
            self.check(-one, -fraction_of(one))
            self.assertEqual((one.top, one.bottom, other.top, other.bottom), before)

    def test_below(self):
        for one, other in self.pairs():
            self.assertIs(one.below(other), fraction_of(one) < fraction_of(other))
            self.assertIs(one.below(one), False)
        self.assertTrue(Share(1, 3).below(other=Share(1, 2)))

    def test_over(self):
        for one, other in self.pairs():
            before = (one.top, one.bottom, other.top, other.bottom)
            if other.top == 0:
                with self.assertRaises(InvalidWeights):
                    one.over(other)
            else:
                self.check(one.over(other), fraction_of(one) / fraction_of(other))
            self.assertEqual((one.top, one.bottom, other.top, other.bottom), before)
        self.check(Share(0).over(Share(-3, 4)), Fraction(0))
        self.check(Share(1, 2).over(Share(-3, 4)), Fraction(-2, 3))
        for nothing in (Share(0), Share(0, 7), Share(0, -7), Share(1) - Share(1)):
            with self.assertRaises(InvalidWeights):
                Share(0).over(nothing)

    def test_a_share_and_itself(self):
        share = Share(3, 4)
        self.check(share + share, Fraction(3, 2))
        self.check(share - share, Fraction(0))
        self.check(share * share, Fraction(9, 16))
        self.check(share.over(share), Fraction(1))
        self.check(share, Fraction(3, 4))


class ValuesTest(unittest.TestCase):
    def test_equality(self):
        self.assertEqual(Share(3, 4), Share(-6, -8))
        self.assertEqual(Share(0, 9), Share(0))
        for other in [Share(3, 5), Share(2, 4), Share(-3, 4), Share(4, 3), 3, 0.75, (3, 4), "3/4", None, True,
                      Fraction(3, 4), Answer()]:
            self.assertNotEqual(Share(3, 4), other)
            self.assertFalse(Share(3, 4) == other)
        # Nothing of another class is equal.
        for share, other in [(Share(1), 1), (Share(1), True), (Share(0), 0), (Share(0), False), (Share(2), 2)]:
            self.assertFalse(share == other)
            self.assertTrue(share != other)

    def test_text_and_repr(self):
        for share, text, told in [
            (Share(3, 4), "3/4", "Share(3, 4)"), (Share(-6, 8), "-3/4", "Share(-3, 4)"), (Share(2), "2", "Share(2, 1)"),
            (Share(4, 2), "2", "Share(2, 1)"), (Share(0, 3), "0", "Share(0, 1)"), (Share(-5), "-5", "Share(-5, 1)"),
            (Share(1, 1000000000), "1/1000000000", "Share(1, 1000000000)"),
            (Share(HUGE, 2), f"{HUGE}/2", f"Share({HUGE}, 2)"), (Share(2, -HUGE), f"-2/{HUGE}", f"Share(-2, {HUGE})"),
        ]:
            self.assertEqual((str(share), repr(share)), (text, told))

    def test_texts_of_thousands_of_digits(self):
        # Python itself refuses to write numbers of more than 4300 digits.
        share = Share(10 ** 5000, 3)
        self.assertEqual(str(share), "1" + "0" * 5000 + "/3")
        self.assertEqual(repr(Share(1, 10 ** 5000)), "Share(1, 1" + "0" * 5000 + ")")

    def test_truth(self):
        for top, bottom in VALUES:
            self.assertIs(bool(Share(top, bottom)), top != 0)
        self.assertFalse(Share(1, 2) - Share(2, 4))

    def test_operators_take_shares_alone(self):
        for other in (1, 0, None, "1", Fraction(1)):
            for operator in (lambda one, two: one + two, lambda one, two: one - two, lambda one, two: one * two):
                with self.assertRaises(TypeError):
                    operator(Share(1, 2), other)


if __name__ == "__main__":
    unittest.main()
