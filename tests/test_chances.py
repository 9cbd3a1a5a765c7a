"""Shares of weights, chances of rows, and guessing: [38] and [39]."""

import itertools
import random
import unittest
from fractions import Fraction

from answersalone.chances import (
    all_rows, guessed_chance, guessed_shares, kept_chances, kept_share, rest_shares, row_chance, shares_of,
)
from answersalone.crews import Crew
from answersalone.errors import InvalidWeights
from answersalone.plain import worked
from answersalone.shares import Share
from answersalone.splits import Split

from samples import example_net, some_net
from standin import odd_values


def fraction_of(share):
    return Fraction(share.top, share.bottom)


def fractions_of(shares):
    return [fraction_of(share) for share in shares]


def fractions_by_the_words(weights):
    total = sum(weights)
    if total == 0:
        return [Fraction(1)] + [Fraction(0)] * (len(weights) - 1)
    return [Fraction(weight, total) for weight in weights]


def some_weights(draw, tokens, greatest=9):
    while True:
        weights = [draw.choice([0, 1, draw.randint(0, greatest)]) for _ in range(tokens)]
        if any(weights):
            return weights


def some_shares(draw, tokens):
    return shares_of(some_weights(draw, tokens))


def easy_net(draw, tokens=None):
    """A net with small numbers, so that several tokens have weights above 0."""
    return some_net(draw, tokens=tokens or draw.randint(2, 4), width=2, layers=draw.randint(1, 2), greatest=2)


def net_shares(net, text):
    return fractions_by_the_words(net.weights(worked(net, text)[-1][1]))


def guessing_by_the_words(net, text, places, weigher):
    """[39]: a dict with the chance of each row of places + 1 tokens, and the chances of how many are kept."""
    rows = {}
    kept = [Fraction(0)] * (places + 1)

    def alone(row, chance):
        """Draws the tokens that lack by the net alone."""
        if len(row) == places + 1:
            rows[row] = rows.get(row, Fraction(0)) + chance
            return
        for token, share in enumerate(net_shares(net, list(text) + list(row))):
            if share:
                alone(row + (token,), chance * share)

    def guess(row, chance):
        if len(row) == places:
            kept[places] += chance
            alone(row, chance)
            return
        p = net_shares(net, list(text) + list(row))
        q = fractions_by_the_words(weigher(list(text) + list(row)))
        refused = Fraction(0)
        for token, share in enumerate(q):
            if share:
                right = min(Fraction(1), p[token] / share)
                refused += share * (1 - right)
                if right:
                    guess(row + (token,), chance * share * right)
        kept[len(row)] += chance * refused
        above = [max(Fraction(0), one - other) for one, other in zip(p, q)]
        if refused:
            for token, difference in enumerate(above):
                if difference:
                    alone(row + (token,), chance * refused * difference / sum(above))

    guess((), Fraction(1))
    return rows, kept


def weighers(draw, net):
    tokens = net.shape.tokens
    lists = [some_weights(draw, tokens, 99) for _ in range(7)]

    def by_the_text(text):
        told = list(lists[(sum(text) * 3 + len(text)) % 7])
        text.clear()
        return told

    def honest(text):
        weights = [min(99, weight) for weight in net.weights(worked(net, text)[-1][1])]
        text[:] = [99]
        return tuple(weights) if any(weights) else (99,) + (0,) * (tokens - 1)

    def stubborn(text):
        text.append(1)
        return [0] * (tokens - 1) + [99]

    return [by_the_text, honest, stubborn, lambda text: [1] * tokens, lambda text: (99,) + (0,) * (tokens - 1)]


class SharesOfTest(unittest.TestCase):
    def test_each_weight_by_the_sum(self):
        self.assertEqual(shares_of([1, 3]), [Share(1, 4), Share(3, 4)])
        self.assertEqual(shares_of((2, 0, 2)), [Share(1, 2), Share(0), Share(1, 2)])
        self.assertEqual(shares_of([5]), [Share(1)])
        self.assertEqual(shares_of([0, 0, 7]), [Share(0), Share(0), Share(1)])
        self.assertIsInstance(shares_of((1, 2)), list)

    def test_all_weights_are_0(self):
        for many in range(1, 7):
            self.assertEqual(shares_of([0] * many), [Share(1)] + [Share(0)] * (many - 1))

    def test_made_up_ones(self):
        draw = random.Random(1)
        for _ in range(100):
            weights = [draw.randint(0, 10 ** draw.choice([0, 1, 9, 30])) for _ in range(draw.randint(1, 6))]
            before = list(weights)
            shares = shares_of(weights)
            self.assertEqual(fractions_of(shares), fractions_by_the_words(weights))
            self.assertEqual(sum(fractions_of(shares)), 1)
            self.assertEqual(weights, before)


class OnePlaceTest(unittest.TestCase):
    def test_the_example_of_the_document(self):
        p, q = [Share(3, 4), Share(1, 4)], [Share(1, 2), Share(1, 2)]
        self.assertEqual(kept_share(p, q), Share(3, 4))
        self.assertEqual(rest_shares(p, q), [Share(1), Share(0)])
        self.assertEqual(guessed_shares(p, q), p)

    def test_made_up_shares(self):
        draw = random.Random(2)
        seen = {"kept": 0, "refused": 0}
        for _ in range(300):
            tokens = draw.randint(1, 6)
            p = some_shares(draw, tokens)
            q = draw.choice([p, some_shares(draw, tokens), some_shares(draw, tokens)])
            before = (list(p), list(q))
            fp, fq = fractions_of(p), fractions_of(q)
            kept = sum(min(one, other) for one, other in zip(fp, fq))
            self.assertEqual(fraction_of(kept_share(p, q)), kept)
            rest = rest_shares(p, q)
            if kept == 1:
                seen["kept"] += 1
                self.assertIsNone(rest)
                self.assertEqual(fp, fq)
            else:
                seen["refused"] += 1
                self.assertIsInstance(rest, list)
                above = [max(Fraction(0), one - other) for one, other in zip(fp, fq)]
                self.assertEqual(fractions_of(rest), [difference / sum(above) for difference in above])
            self.assertEqual(guessed_shares(p, q), p)
            self.assertEqual(guessed_shares(tuple(p), tuple(q)), p)
            self.assertIsInstance(guessed_shares(p, q), list)
            self.assertEqual((p, q), before)
        self.assertGreater(min(seen.values()), 40, seen)

    def test_shares_apart(self):
        one, other = [Share(1), Share(0)], [Share(0), Share(1)]
        self.assertEqual((kept_share(one, other), rest_shares(one, other)), (Share(0), [Share(1), Share(0)]))
        self.assertEqual((kept_share(one, one), rest_shares(one, one)), (Share(1), None))
        self.assertEqual((guessed_shares(one, other), guessed_shares(other, one)), (one, other))

    def test_a_new_list(self):
        p, q = [Share(1, 2), Share(1, 4), Share(1, 4)], [Share(1, 4), Share(1, 4), Share(1, 2)]
        self.assertEqual(rest_shares(p, q), [Share(1), Share(0), Share(0)])
        guessed_shares(p, q).clear()
        self.assertEqual(guessed_shares(p, q), [Share(1, 2), Share(1, 4), Share(1, 4)])


class RowChanceTest(unittest.TestCase):
    def test_the_example_net(self):
        net = example_net()
        # The weights behind ab are 0, 1, 3; behind abb 0, 1, 1.
        self.assertEqual(row_chance(net, [1, 2], [2]), Share(3, 4))
        self.assertEqual(row_chance(net, [1, 2], (1,)), Share(1, 4))
        self.assertEqual(row_chance(net, (1, 2), [0]), Share(0))
        self.assertEqual(row_chance(net, [1, 2], [2, 2]), Share(3, 8))
        self.assertEqual(row_chance(net, [1, 2], [2, 1, 1]), Share(3, 16))
        self.assertIsInstance(row_chance(net, [1, 2], [2]), Share)

    def test_the_end_is_a_token_as_any_other(self):
        draw = random.Random(3)
        for _ in range(30):
            net = easy_net(draw)
            text = [draw.randint(0, net.shape.tokens - 1) for _ in range(draw.randint(1, 3))]
            row = [draw.choice([0, draw.randint(0, net.shape.tokens - 1)]) for _ in range(draw.randint(1, 4))]
            chance = Fraction(1)
            for at, token in enumerate(row):
                chance *= net_shares(net, text + row[:at])[token]
            before = (list(text), list(row))
            self.assertEqual(fraction_of(row_chance(net, text, row)), chance)
            self.assertEqual((text, row), before)

    def test_all_rows_of_a_length_add_up_to_1(self):
        draw = random.Random(4)
        for _ in range(15):
            net = easy_net(draw)
            for length in (1, 2, 3):
                chances = [row_chance(net, [1, 0], row) for row in all_rows(net.shape.tokens, length)]
                self.assertEqual(sum(fractions_of(chances)), 1)

    def test_all_weights_0(self):
        # The example net with a base of 0 and out rows of 0.
        net = some_net(random.Random(5), tokens=3, width=1)
        flat = type(net)(net.tokens, net.cap, net.token_rows, net.place_rows, net.layers, [[0]] * 3, [0] * 3)
        self.assertEqual([row_chance(flat, [1], [token]) for token in range(3)], [Share(1), Share(0), Share(0)])
        self.assertEqual(row_chance(flat, [2], [0, 0, 0, 0]), Share(1))


class GuessingTest(unittest.TestCase):
    def test_the_chance_of_each_row_is_that_of_the_net(self):
        draw = random.Random(6)
        for _ in range(12):
            net = easy_net(draw, 3)
            text = [draw.randint(0, 2) for _ in range(draw.randint(1, 3))]
            for weigher in weighers(draw, net):
                for length in (1, 2, 3):
                    for row in itertools.product(range(3), repeat=length):
                        before = (list(text), list(row))
                        self.assertEqual(guessed_chance(net, text, row, weigher), row_chance(net, text, row))
                        self.assertEqual(guessed_chance(net, tuple(text), list(row), weigher),
                                         row_chance(net, text, row))
                        self.assertEqual((text, list(row)), before)
        self.assertIsInstance(guessed_chance(net, [1], [1, 1], lambda text: [1, 1, 1]), Share)

    def test_long_rows(self):
        draw = random.Random(7)
        for _ in range(15):
            net = easy_net(draw)
            for weigher in weighers(draw, net):
                row = [draw.randint(0, net.shape.tokens - 1) for _ in range(4)]
                self.assertEqual(guessed_chance(net, [1], row, weigher), row_chance(net, [1], row))

    def test_against_all_that_guessing_can_come_to(self):
        draw = random.Random(8)
        for _ in range(10):
            net = easy_net(draw, 3)
            for weigher in weighers(draw, net):
                for places in (0, 1, 2, 3):
                    rows, kept = guessing_by_the_words(net, [2, 1], places, weigher)
                    told = kept_chances(net, [2, 1], places, weigher)
                    self.assertEqual(fractions_of(told), kept)
                    self.assertEqual((len(told), sum(kept)), (places + 1, 1))
                    for row in draw.sample(list(itertools.product(range(3), repeat=places + 1)), 3):
                        self.assertEqual(fraction_of(guessed_chance(net, [2, 1], row, weigher)), rows.get(row, 0))

    def test_kept_chances_of_the_example(self):
        net = example_net()

        def even(text):
            return [0, 1, 1]

        self.assertEqual(kept_chances(net, [1, 2], 0, even), [Share(1)])
        # p is 0, 1/4, 3/4 behind ab: 1/4 and 1/2 are kept.
        self.assertEqual(kept_chances(net, [1, 2], 1, even), [Share(1, 4), Share(3, 4)])
        self.assertEqual(kept_chances(net, (1, 2), 1, lambda text: (0, 1, 3)), [Share(0), Share(1)])
        self.assertEqual(kept_chances(net, [1, 2], 1, lambda text: [1, 0, 0]), [Share(1), Share(0)])
        self.assertIsInstance(kept_chances(net, [1, 2], 2, even), list)
        # Behind abb p is 0, 1/2, 1/2, behind aba: all is kept behind abb, and what is left is the weights of aba.
        p = net_shares(net, [1, 2, 1])
        second = sum(min(one, other) for one, other in zip(p, [0, Fraction(1, 2), Fraction(1, 2)]))
        told = fractions_of(kept_chances(net, [1, 2], 2, even))
        self.assertEqual(told[2], Fraction(1, 2) + second / 4)
        self.assertEqual(told, [Fraction(1, 4), 1 - Fraction(1, 4) - told[2], told[2]])

    def test_a_crew(self):
        net = example_net()
        crew = Crew(net, Split(net.shape, net.shape.things()))
        self.assertEqual(row_chance(crew, [1, 2], [2, 1]), row_chance(net, [1, 2], [2, 1]))


class AskedTest(unittest.TestCase):
    """For which texts a weigher is asked, and what it is given."""

    def asked(self, call, *arguments, weights=None):
        texts = []

        def weigher(text):
            self.assertIsInstance(text, list)
            for _, given in texts:
                self.assertIsNot(text, given)
            texts.append((tuple(text), text))
            told = weights(tuple(text)) if weights else [1] * arguments[0].shape.tokens
            text.reverse()
            text.append(7)
            return told

        call(*arguments, weigher)
        return [text for text, _ in texts]

    def test_no_guessed_place(self):
        net = example_net()
        self.assertEqual(self.asked(guessed_chance, net, [1, 2], [2]), [])
        self.assertEqual(self.asked(kept_chances, net, [1, 2], 0), [])
        # So nothing can be wrong.
        self.assertEqual(guessed_chance(net, [1, 2], [2], lambda text: None), Share(3, 4))
        self.assertEqual(kept_chances(net, [1, 2], 0, lambda text: None), [Share(1)])

    def test_the_text_itself(self):
        net = example_net()
        for row in itertools.product(range(3), repeat=2):
            self.assertEqual(self.asked(guessed_chance, net, [1, 2], row), [(1, 2)])
        self.assertEqual(self.asked(kept_chances, net, (1, 2), 1), [(1, 2)])

    def test_longer_texts_that_guessing_can_come_to(self):
        draw = random.Random(9)
        for _ in range(60):
            net = easy_net(draw)
            tokens = net.shape.tokens
            lists = [some_weights(draw, tokens) for _ in range(5)]

            def weights(text):
                return lists[(sum(text) + len(text)) % 5]

            for places in (1, 2, 3):
                reached = [()]
                for at in range(places - 1):
                    for row in [row for row in reached if len(row) == at]:
                        text = [1, *row]
                        shares = zip(net_shares(net, text), fractions_by_the_words(weights(text)))
                        reached += [row + (token,) for token, pair in enumerate(shares) if min(pair)]
                texts = self.asked(kept_chances, net, [1], places, weights=weights)
                self.assertEqual(texts[0], (1,))
                self.assertEqual(len(texts), len(set(texts)))
                self.assertLessEqual({text[1:] for text in texts}, set(reached))
                row = tuple(draw.randint(0, tokens - 1) for _ in range(places + 1))
                texts = self.asked(guessed_chance, net, [1], row, weights=weights)
                self.assertEqual(texts[0], (1,))
                self.assertLessEqual({text[1:] for text in texts}, set(reached))

    def test_a_wrong_result_counts_only_where_it_is_asked(self):
        net = example_net()

        def weigher(text):
            return [0, 1, 1] if len(text) == 2 else None

        # The end has the share 0 by both, so guessing does not come to ab and an end.
        self.assertEqual(guessed_chance(net, [1, 2], [0, 1, 1], weigher), Share(0))

        def closed(text):
            return [0, 0, 9] if text in ([1, 2], [1, 2, 2]) else "rubbish"

        self.assertEqual(len(kept_chances(net, [1, 2], 2, closed)), 3)
        with self.assertRaises(InvalidWeights):
            kept_chances(net, [1, 2], 3, lambda text: [0, 0, 9] if text == [1, 2] else "rubbish")


class WrongWeightsTest(unittest.TestCase):
    def test_each_kind_of_wrong_result(self):
        net = example_net()
        wrong = odd_values() + [
            [1, 1], [1, 1, 1, 1], [], (), [0, 0, 0], (0, 0, 0), [-1, 1, 1], [1, 1, 100], [1, 1, True], [False, 1, 1],
            [1, None, 1], ["1", "1", "1"], "111", 111, {1: 1}, [[1], [1], [1]], [Share(1), Share(1), Share(1)],
            [1, 1, 999999999], [0, 0, -1], [0, 1, (1,)], net, "",
        ]
        for result in wrong:
            for call in (lambda: guessed_chance(net, [1, 2], [1, 1], lambda text: result),
                         lambda: kept_chances(net, [1, 2], 1, lambda text: result),
                         lambda: kept_chances(net, [1, 2], 3, lambda text: result)):
                with self.assertRaises(InvalidWeights):
                    call()

    def test_the_bounds(self):
        net = example_net()
        for result in ([99, 99, 99], (0, 0, 1), [1, 0, 0], (0, 99, 0)):
            self.assertEqual(guessed_chance(net, [1, 2], [2, 1], lambda text: result), row_chance(net, [1, 2], [2, 1]))
            self.assertEqual(sum(fractions_of(kept_chances(net, [1, 2], 2, lambda text: result))), 1)

    def test_a_wrong_result_for_the_text_itself_whatever_the_row(self):
        net = example_net()
        for row in itertools.product(range(3), repeat=2):
            with self.assertRaises(InvalidWeights):
                guessed_chance(net, [1, 2], row, lambda text: [0, 0, 0])


class AllRowsTest(unittest.TestCase):
    def test_ascending(self):
        for tokens in range(1, 5):
            for length in range(1, 5):
                rows = list(all_rows(tokens, length))
                self.assertEqual(rows, list(itertools.product(range(tokens), repeat=length)))
                self.assertEqual(rows, sorted(rows))
                self.assertTrue(all(isinstance(row, tuple) for row in rows))
        self.assertEqual(list(all_rows(2, 0)), [()])

    def test_it_is_a_generator(self):
        rows = all_rows(tokens=2, length=1)
        self.assertEqual([next(rows), next(rows)], [(0,), (1,)])
        with self.assertRaises(StopIteration):
            next(rows)


if __name__ == "__main__":
    unittest.main()
