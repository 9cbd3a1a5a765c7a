"""Constants, numbers, names, tokens and number words: [2], [3]."""

import unittest

from answersalone import words
from answersalone.words import is_name, is_number, is_tokens, number_word, read_number

from standin import odd_values


class ConstantsTest(unittest.TestCase):
    def test_constants(self):
        self.assertEqual([words.PAGE, words.ROOM, words.BUDGET, words.ROUNDS], [2, 12, 4, 400])


class NumbersTest(unittest.TestCase):
    def test_both_ends(self):
        for least, most in [(0, 9), (-9, 9), (1, 99), (0, 999999999), (5, 5), (-7, -3)]:
            self.assertIs(is_number(least, least, most), True)
            self.assertIs(is_number(most, least, most), True)
            self.assertIs(is_number((least + most) // 2, least, most), True)
            self.assertIs(is_number(least - 1, least, most), False)
            self.assertIs(is_number(most + 1, least, most), False)

    def test_an_empty_range(self):
        self.assertFalse(is_number(3, 4, 2))

    def test_large_numbers(self):
        self.assertTrue(is_number(10 ** 5000, 0, 10 ** 5000))
        self.assertFalse(is_number(10 ** 5000, 0, 9))

    def test_booleans_are_no_numbers(self):
        self.assertIs(is_number(True, 0, 1), False)
        self.assertIs(is_number(False, 0, 1), False)

    def test_other_values(self):
        for value in odd_values() + ["", "1", "a"]:
            self.assertIs(is_number(value, -9, 9), False)

    def test_by_name(self):
        self.assertTrue(is_number(value=3, least=1, most=3))


class NamesTest(unittest.TestCase):
    def test_names(self):
        for name in ["a", "z", "ab", "abcdefgh", "zzzzzzzz", "ask"]:
            self.assertIs(is_name(name), True, name)

    def test_strings_that_are_none(self):
        for name in ["", "abcdefghi", "a" * 12000, "A", "aB", "a1", "a b", " a", "a\n", "\n", "-", "a_", "`", "{"]:
            self.assertIs(is_name(name), False, name)

    def test_other_values(self):
        for value in odd_values() + [0, 1, ["a", "b"]]:
            self.assertIs(is_name(value), False)

    def test_by_name(self):
        self.assertTrue(is_name(value="a"))


class TokensTest(unittest.TestCase):
    def test_tokens(self):
        for tokens in [".a", "ab", ".abcde", "!~", "~}|{zy", "*/-+ab", "012345", "$&", "Aa"]:
            self.assertIs(is_tokens(tokens), True, tokens)

    def test_strings_that_are_none(self):
        wrong = ["", "a", ".abcdef", "abc" * 4000, "aa", ".aba", "a b", " a", "a\n", ".a%", "%a", "a\x7f", "a\x1f"]
        for tokens in wrong:
            self.assertIs(is_tokens(tokens), False, tokens)

    def test_the_characters(self):
        for number in range(32, 127):
            right = number not in (32, 37)
            other = "a" if chr(number) != "a" else "b"
            self.assertIs(is_tokens(other + chr(number)), right, chr(number))

    def test_other_values(self):
        for value in odd_values() + [0, 12, ["a", "b"], (".", "a", "b")]:
            self.assertIs(is_tokens(value), False)

    def test_by_name(self):
        self.assertTrue(is_tokens(value="ab"))


class NumberWordsTest(unittest.TestCase):
    def test_words(self):
        pairs = [
            (0, "0"), (1, "1"), (9, "9"), (10, "10"), (-1, "-1"), (-10, "-10"), (999999999, "999999999"),
            (1000000000, "1000000000"), (-999999999, "-999999999"), (1000000007, "1000000007"),
            (-5000000000000000003, "-5000000000000000003"), (10 ** 18, "1" + "0" * 18),
        ]
        for number, word in pairs:
            self.assertEqual(number_word(number), word)

    def test_there_and_back(self):
        for number in list(range(-1200, 1201)) + [999999999, -999999999, 10 ** 40 + 7, -(10 ** 40)]:
            word = number_word(number)
            self.assertEqual(read_number(word, number, number), number)
            self.assertEqual(read_number(word, number - 5, number + 5), number)
            self.assertIsNone(read_number(word, number + 1, number + 5))
            self.assertIsNone(read_number(word, number - 5, number - 1))

    def test_thousands_of_digits(self):
        long = "7" * 5000
        number = 7 * (10 ** 5000 - 1) // 9
        self.assertEqual(number_word(number), long)
        self.assertEqual(number_word(-number), "-" + long)
        self.assertEqual(read_number(long, 0, number), number)
        self.assertEqual(read_number("-" + long, -number, 0), -number)
        self.assertIsNone(read_number(long, 0, number - 1))
        self.assertIsNone(read_number(long, 0, 9))
        self.assertIsNone(read_number("-" + long, -9, 9))
        self.assertIsNone(read_number("0" * 12000, 0, 9))
        self.assertIsNone(read_number("1" * 12000, 0, 9))

    def test_reading_is_a_number(self):
        self.assertIs(read_number("1", 0, 1), 1)
        self.assertIs(read_number("0", 0, 1), 0)

    def test_strings_that_are_no_words(self):
        wrong = [
            "", "-", "+", "-0", "00", "01", "-01", "+1", "--1", "1-", "- 1", " 1", "1 ", "1\n", "\n1", "1 2", "1_0",
            "1.0", "0x1", "a", "1a", "1e1", "*", "\u0661", "\u00b2", "\uff11",
        ]
        for word in wrong:
            self.assertIsNone(read_number(word, -99, 99), word)

    def test_beyond_the_bounds(self):
        self.assertEqual(read_number("-9", -9, 9), -9)
        self.assertIsNone(read_number("-10", -9, 9))
        self.assertIsNone(read_number("10", -9, 9))
        self.assertIsNone(read_number("-1", 0, 9))
        self.assertIsNone(read_number("0", 1, 9))

    def test_other_values(self):
        for value in odd_values() + [0, 1, -1, 12, ["1"], ("1",)]:
            self.assertIsNone(read_number(value, -9, 99))

    def test_by_name(self):
        self.assertEqual(number_word(number=12), "12")
        self.assertEqual(read_number(word="12", least=0, most=12), 12)


if __name__ == "__main__":
    unittest.main()
