"""Automata and their words: [9], [10], and of [2] and [3] what speaks of them."""

import itertools
import unittest

from answersalone.automata import Automaton, everything
from answersalone.errors import InvalidAutomaton
from answersalone.requests import Request

from standin import odd_values


def some_automata():
    """Automata of many sizes, with and without ways to a closing state."""
    made = [
        Automaton.read("1-/01+"),
        Automaton([[None]]),
        Automaton([[0]], [0]),
        Automaton([[None] * 5] * 6, [5]),
        Automaton([[1], [2], [3], [4], [5], [0]], [5]),
        Automaton([[1, None], [1, 2], [None, None]], [2]),
    ]
    number = 1
    for states, columns in itertools.product((1, 2, 3, 4), (1, 2, 3)):
        for _ in range(12):
            table = []
            for _ in range(states):
                row = []
                for _ in range(columns):
                    number = (number * 1103515245 + 12345) % 2147483648
                    step = number // 65536 % (states + 2)
                    row.append(step if step < states else None)
                table.append(row)
            number = (number * 1103515245 + 12345) % 2147483648
            closing = [q for q in range(states) if number // 65536 >> q & 1]
            made.append(Automaton(table, closing))
    return made


def led(automaton, state, text):
    """The state to which a text leads, by the table alone."""
    for token in text:
        if state is not None:
            state = automaton.table[state][token - 1]
    return state


def texts_of(automaton, most):
    """All texts without ends of at most so many tokens, in the order of the listing."""
    tokens = range(1, automaton.tokens)
    for length in range(most + 1):
        yield from itertools.product(tokens, repeat=length)


def need_of(automaton, state):
    """The need of a state by trying texts; no need is greater than 5."""
    for length in range(len(automaton.table)):
        reached = {state}
        for _ in range(length):
            reached = {q for p in reached for q in automaton.table[p] if q is not None}
        if reached & set(automaton.closing):
            return length
    return None


class AttributesTest(unittest.TestCase):
    def test_attributes(self):
        automaton = Automaton([[1, None], [0, 1]], [1])
        self.assertEqual(automaton.table, ((1, None), (0, 1)))
        self.assertEqual(automaton.closing, (1,))
        self.assertEqual(automaton.tokens, 3)

    def test_closing_is_ascending(self):
        self.assertEqual(Automaton([[0]] * 6, [4, 0, 5, 2]).closing, (0, 2, 4, 5))
        self.assertEqual(Automaton([[0]]).closing, ())

    def test_tuples_and_lists(self):
        made = [Automaton(((0, None), [1, 1]), (1, 0)), Automaton([(0, None), (1, 1)], [0, 1])]
        for automaton in made:
            self.assertEqual(automaton.table, ((0, None), (1, 1)))
            self.assertEqual(automaton.closing, (0, 1))
            self.assertIsInstance(automaton.table, tuple)
            self.assertIsInstance(automaton.table[0], tuple)
            self.assertIsInstance(automaton.closing, tuple)

    def test_the_lists_are_copied(self):
        row = [0, None]
        table = [row, [1, 1]]
        closing = [1, 0]
        automaton = Automaton(table, closing)
        self.assertEqual((table, closing), ([[0, None], [1, 1]], [1, 0]))
        row[0] = 1
        table.append([0, 0])
        closing.clear()
        self.assertEqual((automaton.table, automaton.closing), (((0, None), (1, 1)), (0, 1)))
        self.assertEqual(automaton.after(0, 1), 0)
        self.assertTrue(automaton.accepts([]))

    def test_by_name(self):
        self.assertEqual(Automaton(closing=[0], table=[[0]]), Automaton([[0]], [0]))

    def test_the_greatest_one(self):
        automaton = Automaton([[0, 1, 2, 3, 4]] * 6, [0, 1, 2, 3, 4, 5])
        self.assertEqual(automaton.tokens, 6)


class WrongPartsTest(unittest.TestCase):
    def refused(self, part, *given):
        with self.assertRaises(InvalidAutomaton) as caught:
            Automaton(*given)
        self.assertEqual(caught.exception.part, part, given)

    def test_wrong_tables(self):
        for value in odd_values() + ["", "1-/01+", 0, 3]:
            if value != [[0]]:
                self.refused("table", value, [0])

    def test_wrong_rows(self):
        for value in odd_values() + ["", "0", 0, 1]:
            if value not in ([1], (0, 1), [None]):
                self.refused("table", [value], [0])
                self.refused("table", [[0], value, [0]], [0])

    def test_wrong_items(self):
        for value in odd_values() + ["", "0", "-", 2, -1, 10 ** 9]:
            if value is not None:
                self.refused("table", [[0, value], [0, 0]], [0])
                self.refused("table", [[0, 0], [value, 0]], [0])

    def test_wrong_sizes(self):
        self.refused("table", [], [])
        self.refused("table", [[0]] * 7, [0])
        self.refused("table", [[]], [0])
        self.refused("table", [[0] * 6], [0])
        self.refused("table", [[0] * 400] * 400, [0])
        self.refused("table", [[0], [0, 0]], [0])
        self.refused("table", [[0, 0], [0], [0, 0]], [0])

    def test_states_that_are_none(self):
        self.refused("table", [[1]], [0])
        self.refused("table", [[0], [2]], [0])
        self.refused("table", [[0], [-1]], [0])
        self.refused("table", [[True], [0]], [0])
        self.refused("table", [[False], [0]], [0])

    def test_wrong_closing(self):
        for value in odd_values() + ["", "0", 0]:
            if value not in ([], (), [1], (0, 1)):
                self.refused("closing", [[0], [0]], value)

    def test_wrong_closing_states(self):
        for value in odd_values() + ["0", 2, -1, 10 ** 9]:
            self.refused("closing", [[0], [0]], [value])
            self.refused("closing", [[0], [0]], [0, value])
        self.refused("closing", [[0], [0]], [0, 0])
        self.refused("closing", [[0], [0]], [1, 0, 1])
        self.refused("closing", [[0], [0]], [0] * 400)

    def test_the_table_comes_first(self):
        self.refused("table", None, None)
        self.refused("table", [[7]], [7])
        self.refused("table", [[True]], [True])
        self.refused("closing", [[0]], [True])


class StepsTest(unittest.TestCase):
    def test_after(self):
        automaton = Automaton.read("1-/01+")
        self.assertEqual([automaton.after(0, 1), automaton.after(1, 1), automaton.after(1, 2)], [1, 0, 1])
        self.assertIsNone(automaton.after(0, 2))

    def test_after_the_end_and_no_tokens(self):
        automaton = Automaton.read("00/00+")
        for state in (0, 1):
            for token in [0, 3, -1, -2, 10 ** 9] + odd_values():
                self.assertIsNone(automaton.after(state, token))

    def test_states_that_are_none(self):
        automaton = Automaton.read("00+/00+")
        for state in [2, -1, 10 ** 9, None, True]:
            self.assertIsNone(automaton.after(state, 1))
            self.assertIsNone(automaton.need(state))
            self.assertEqual(automaton.allowed(state, 3), [])

    def test_state_of(self):
        automaton = Automaton.read("1-/01+")
        self.assertEqual(automaton.state_of([]), 0)
        self.assertEqual(automaton.state_of((1, 2, 2)), 1)
        self.assertEqual(automaton.state_of([1, 1]), 0)
        for text in [[2], [1, 1, 2], [1, 0], [0], [1, 3], [2, 1]]:
            self.assertIsNone(automaton.state_of(text), text)

    def test_accepts(self):
        automaton = Automaton.read("1-/01+")
        for text, accepted in [([1], True), ((1, 2), True), ([], False), ([1, 1], False), ([2], False), ([1, 0], False)]:
            self.assertIs(automaton.accepts(text), accepted)
        self.assertIs(Automaton([[None]], [0]).accepts([]), True)
        self.assertIs(Automaton([[None]], [0]).accepts([1]), False)

    def test_values_that_are_no_texts(self):
        automaton = everything(3)
        for value in ["", "1", None, 0, True, automaton]:
            self.assertIsNone(automaton.state_of(value))
            self.assertIs(automaton.accepts(value), False)

    def test_by_the_table(self):
        for automaton in some_automata():
            for text in texts_of(automaton, 3):
                state = led(automaton, 0, text)
                self.assertEqual(automaton.state_of(list(text)), state)
                self.assertIs(automaton.accepts(text), state in automaton.closing)


class NeedTest(unittest.TestCase):
    def test_need(self):
        self.assertEqual([Automaton.read("1-/01+").need(q) for q in (0, 1)], [1, 0])
        chain = Automaton([[1], [2], [3], [4], [5], [None]], [5])
        self.assertEqual([chain.need(q) for q in range(6)], [5, 4, 3, 2, 1, 0])
        ring = Automaton([[1], [2], [3], [4], [5], [0]], [0])
        self.assertEqual([ring.need(q) for q in range(6)], [0, 5, 4, 3, 2, 1])

    def test_no_need(self):
        self.assertIsNone(Automaton([[0]]).need(0))
        automaton = Automaton([[0, 1], [None, 1], [1, 0]], [0])
        self.assertEqual([automaton.need(q) for q in range(3)], [0, None, 1])

    def test_by_trying(self):
        for automaton in some_automata():
            for state in range(len(automaton.table)):
                self.assertEqual(automaton.need(state), need_of(automaton, state), (automaton, state))


class AllowedTest(unittest.TestCase):
    def test_the_document(self):
        a = Automaton.read("1-/01+")
        told = [a.need(0), a.allowed(0, 1), a.allowed(1, 1), a.allowed(1, 2), list(a.texts(3))]
        self.assertEqual(told, [1, [1], [0, 2], [0, 1, 2], [(1,), (1, 2), (1, 1, 1), (1, 2, 2)]])

    def test_by_the_rule(self):
        for automaton in some_automata():
            for state, free in itertools.product(range(len(automaton.table)), (1, 2, 3, 16)):
                expected = [0] if state in automaton.closing else []
                for token in range(1, automaton.tokens):
                    behind = automaton.table[state][token - 1]
                    need = None if behind is None else need_of(automaton, behind)
                    if need is not None and need <= free - 1:
                        expected.append(token)
                self.assertEqual(automaton.allowed(state, free), expected)

    def test_a_new_list_each_time(self):
        automaton = everything(3)
        automaton.allowed(0, 2).clear()
        self.assertEqual(automaton.allowed(0, 2), [0, 1, 2])

    def test_by_name(self):
        self.assertEqual(Automaton.read("1-/01+").allowed(free=2, state=1), [0, 1, 2])


class TextsTest(unittest.TestCase):
    def test_by_trying(self):
        for automaton in some_automata():
            for most in range(5 if automaton.tokens < 4 else 4):
                expected = [text for text in texts_of(automaton, most) if led(automaton, 0, text) in automaton.closing]
                self.assertEqual(list(automaton.texts(most)), expected)

    def test_edges(self):
        self.assertEqual(list(everything(2).texts(0)), [()])
        self.assertEqual(list(Automaton([[0]]).texts(4)), [])
        self.assertEqual(list(Automaton([[None]], [0]).texts(4)), [()])
        self.assertEqual(len(list(everything(6).texts(4))), 1 + 5 + 25 + 125 + 625)

    def test_two_listings_at_once(self):
        automaton = Automaton.read("1-/01+")
        one = automaton.texts(3)
        other = automaton.texts(4)
        self.assertEqual([next(one), next(other), next(one), next(other)], [(1,), (1,), (1, 2), (1, 2)])
        self.assertEqual(list(one), [(1, 1, 1), (1, 2, 2)])
        self.assertEqual(list(other), list(automaton.texts(4))[2:])

    def test_behind_a_listing_that_was_broken_off(self):
        automaton = Automaton.read("00+")
        for text in automaton.texts(3):
            if len(text) == 2:
                break
        self.assertEqual(list(automaton.texts(1)), [(), (1,), (2,)])
        self.assertEqual(next(automaton.texts(3)), ())


class WordsTest(unittest.TestCase):
    def test_words(self):
        pairs = [
            ([[1, None], [0, 1]], [1], "1-/01+"),
            ([[None]], [], "-"),
            ([[0]], [0], "0+"),
            ([[None] * 5, [0, 1, 1, 0, None]], [0, 1], "-----+/0110-+"),
            ([[5], [4], [3], [2], [1], [0]], [3], "5/4/3/2+/1/0"),
        ]
        for table, closing, word in pairs:
            automaton = Automaton(table, closing)
            self.assertEqual(str(automaton), word)
            self.assertEqual(repr(automaton), f"Automaton({word})")
            self.assertEqual(Automaton.read(word), automaton)

    def test_there_and_back(self):
        for automaton in some_automata():
            back = Automaton.read(str(automaton))
            self.assertEqual((back.table, back.closing, back.tokens), (automaton.table, automaton.closing, automaton.tokens))
            self.assertEqual(back, automaton)

    def test_no_words(self):
        wrong = [
            "", "+", "/", "1-/01+/", "/0", "0//0", "1", "2/0", "6/0/0/0/0/0", "9", "0/0/0/0/0/0/0", "000000", "00/0",
            "0/00", "0 ", " 0", "0\n", "0+\n", "0++", "+0", "0+0", "0+/+", "a", "0,0", "--/-", "*", "-1", "01/", "\u0660",
            "0" * 12000, "/" * 12000, "0/" * 6000, "+" * 12000,
        ]
        for word in wrong:
            with self.assertRaises(InvalidAutomaton) as caught:
                Automaton.read(word)
            self.assertEqual(caught.exception.part, "word", word)

    def test_values_that_are_no_strings(self):
        for value in odd_values() + [0, 10, ["0+"], ["1-", "01+"]]:
            with self.assertRaises(InvalidAutomaton) as caught:
                Automaton.read(value)
            self.assertEqual(caught.exception.part, "word")

    def test_off_an_object_and_by_name(self):
        self.assertEqual(Automaton([[0]]).read(word="0+"), Automaton([[0]], [0]))


class EqualityTest(unittest.TestCase):
    def test_equal(self):
        one = Automaton([[1, None], [0, 1]], [1, 0])
        self.assertTrue(one == Automaton(((1, None), (0, 1)), (0, 1)))
        self.assertFalse(one != Automaton(((1, None), (0, 1)), (0, 1)))

    def test_not_equal(self):
        one = Automaton([[1, None], [0, 1]], [1])
        others = [Automaton([[1, None], [0, 1]]), Automaton([[1, 0], [0, 1]], [1]), Automaton([[1], [0]], [1])]
        for other in others + [None, "1-/01+", ((1, None), (0, 1)), Request("a", [1], 1), 0]:
            self.assertFalse(one == other)
            self.assertTrue(one != other)


class EverythingTest(unittest.TestCase):
    def test_everything(self):
        for tokens in range(2, 7):
            automaton = everything(tokens)
            self.assertEqual(automaton.table, ((0,) * (tokens - 1),))
            self.assertEqual((automaton.closing, automaton.tokens), ((0,), tokens))
            self.assertEqual(automaton.allowed(0, 1), list(range(tokens)))
        self.assertEqual(str(everything(tokens=4)), "000+")


if __name__ == "__main__":
    unittest.main()
