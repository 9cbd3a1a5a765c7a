"""Chunks and lots: [14]."""

import copy
import itertools
import random
import unittest

from answersalone.errors import Finished, Unfinished, UnknownChunk
from answersalone.lots import Lot
from answersalone.nets import Net
from answersalone.plain import worked

from netmodel import listed, stages_by_the_words
from samples import example_net, some_net, some_parts
from standin import odd_values


def chunk_of(net, text, many):
    """The chunk of a text with so many kept places."""
    return [kept_row for kept_row, _ in worked(net, text)[:many]], list(text[many:])


def deep_net(draw):
    """A net with several layers and heads, whose places do not all look alike."""
    return some_net(draw, tokens=4, width=3, layers=3, heads=2, greatest=2)


class ExampleTest(unittest.TestCase):
    def setUp(self):
        self.net = example_net()

    def test_a_chunk_from_nothing(self):
        lot = Lot(self.net, ([], [1, 2, 2]))
        self.assertEqual((lot.layers_done(0), lot.done), (0, False))
        # The cut sums of the token rows (0, -1), (0, 0), (0, 0) and the place rows (0, 0), (0, 1), (0, 0).
        self.assertEqual(lot.rows(0), [(0, -1), (0, 1), (0, 0)])
        self.assertIsNone(lot.step(0))
        self.assertEqual((lot.layers_done(0), lot.done), (1, True))
        self.assertEqual(lot.rows(0), [(0, -2), (0, 2), (0, 0)])
        self.assertEqual(lot.kept(0), [((((0, 0), (0, -1)),),), ((((0, 0), (0, 1)),),), ((((0, 0), (0, 0)),),)])

    def test_a_chunk_behind_kept_places(self):
        text = [1, 2, 2, 1, 1, 1]
        for many in range(6):
            lot = Lot(self.net, chunk_of(self.net, text, many))
            lot.finish()
            self.assertEqual(list(zip(lot.kept(0), lot.rows(0))), worked(self.net, text)[many:])

    def test_the_end_may_stand_in_a_text(self):
        lot = Lot(self.net, ([], (0, 1, 0)))
        lot.finish()
        self.assertEqual(list(zip(lot.kept(0), lot.rows(0))), worked(self.net, [0, 1, 0]))

    def test_len_and_repr(self):
        self.assertEqual((len(Lot(self.net, ([], [1]))), repr(Lot(self.net, ([], [1])))), (1, "Lot(1 chunks)"))
        lot = Lot(self.net, ([], [1]), ([], [2, 2]), ([], [1]))
        self.assertEqual((len(lot), repr(lot)), (3, "Lot(3 chunks)"))
        lot.finish()
        self.assertEqual((len(lot), repr(lot)), (3, "Lot(3 chunks)"))


class OrderTest(unittest.TestCase):
    """The kept rows and the last rows are those of [6], whatever the order of the steps."""

    def test_rows_at_each_stage(self):
        draw = random.Random(1)
        for _ in range(60):
            parts = some_parts(draw, tokens=4)
            net = Net(**parts)
            layers = len(parts["layers"])
            texts = [[draw.randint(0, 3) for _ in range(draw.randint(1, 7))] for _ in range(draw.randint(1, 4))]
            if len(texts) > 1:
                texts[1] = texts[0][:2] + texts[1]
            ahead = [draw.choice([0, 0, draw.randint(0, len(text) - 1)]) for text in texts]
            told = [stages_by_the_words(parts, text) for text in texts]
            lot = Lot(net, *[chunk_of(net, text, many) for text, many in zip(texts, ahead)])
            steps = [at for at in range(len(texts)) for _ in range(layers)]
            draw.shuffle(steps)
            done = [0] * len(texts)
            for step in [None] + steps:
                if step is not None:
                    self.assertIsNone(lot.step(step))
                    done[step] += 1
                for at, many in enumerate(ahead):
                    self.assertEqual(lot.layers_done(at), done[at])
                    self.assertEqual(lot.rows(at), [rows[done[at]] for _, rows in told[at][many:]])
                    if done[at] == layers:
                        self.assertEqual(lot.kept(at), [kept_row for kept_row, _ in told[at][many:]])
                    else:
                        with self.assertRaises(Unfinished) as caught:
                            lot.kept(at)
                        self.assertEqual(caught.exception.at, at)
                self.assertEqual(lot.done, min(done) == layers)

    def test_each_order_of_two_chunks(self):
        net = deep_net(random.Random(2))
        texts = [[1, 2, 3, 1], [1, 2, 0]]
        for order in sorted(set(itertools.permutations([0, 0, 0, 1, 1, 1]))):
            lot = Lot(net, chunk_of(net, texts[0], 1), chunk_of(net, texts[1], 2))
            for at in order:
                self.assertFalse(lot.done)
                lot.step(at)
            self.assertTrue(lot.done)
            self.assertEqual(list(zip(lot.kept(0), lot.rows(0))), worked(net, texts[0])[1:])
            self.assertEqual(list(zip(lot.kept(1), lot.rows(1))), worked(net, texts[1])[2:])

    def test_finish_goes_on_from_any_state(self):
        draw = random.Random(3)
        for _ in range(30):
            net = deep_net(draw)
            texts = [[draw.randint(0, 3) for _ in range(5)] for _ in range(3)]
            lot = Lot(net, *[chunk_of(net, text, at) for at, text in enumerate(texts)])
            for at in draw.sample([0, 0, 0, 1, 1, 2, 2, 2], draw.randint(0, 8)):
                lot.step(at)
            self.assertIsNone(lot.finish())
            self.assertTrue(lot.done)
            for at, text in enumerate(texts):
                self.assertEqual(list(zip(lot.kept(at), lot.rows(at))), worked(net, text)[at:])
            lot.finish()
            self.assertEqual([lot.layers_done(at) for at in range(3)], [3, 3, 3])

    def test_the_new_places_look_at_kept_ones_and_at_each_other(self):
        # Query and key make each place look at the place whose token row is greatest; value tells its row.
        one, nothing = [[1]], [[0]]
        net = Net(".ab", 9, [[0], [1], [3]], [[0]], [[[[one, one, one]], nothing, nothing]], [[0]] * 3, [0, 0, 0])
        self.assertEqual([last for _, last in worked(net, [1, 2, 1, 1])], [(2,), (6,), (4,), (4,)])
        for many in range(4):
            lot = Lot(net, chunk_of(net, [1, 2, 1, 1], many))
            lot.finish()
            self.assertEqual(lot.rows(0), [(2,), (6,), (4,), (4,)][many:])

    def test_the_place_rows_go_on_behind_the_kept_places(self):
        nothing = [[0]]
        net = Net(".a", 9, [[0], [0]], [[1], [2], [3]], [[[[nothing] * 3], nothing, nothing]], [[0]] * 2, [0, 0])
        for many, rows in [(0, [1, 2, 3, 1, 2]), (1, [2, 3, 1, 2]), (3, [1, 2]), (4, [2])]:
            lot = Lot(net, chunk_of(net, [1] * 5, many))
            self.assertEqual(lot.rows(0), [(row,) for row in rows])


class CopiesTest(unittest.TestCase):
    def test_lists_at_all_depths(self):
        draw = random.Random(4)
        for _ in range(20):
            net = deep_net(draw)
            text = [draw.randint(0, 3) for _ in range(6)]
            kept, tokens = chunk_of(net, text, 3)
            chunk = [listed(kept), list(tokens)]
            untouched = copy.deepcopy(chunk)
            lot = Lot(net, chunk)
            lot.step(0)
            self.assertEqual(chunk, untouched)
            # What was passed is changed later, at all depths.
            chunk[0][0][1][0][0][0] = 1000
            chunk[0][1][2][1][1] = [999] * 3
            chunk[0].append([])
            chunk[1].append(1)
            chunk[1][0] = 0
            del chunk[:]
            lot.finish()
            self.assertEqual(list(zip(lot.kept(0), lot.rows(0))), worked(net, text)[3:])

    def test_told_lists_may_be_spoilt(self):
        net = deep_net(random.Random(5))
        lot = Lot(net, chunk_of(net, [1, 2, 3], 1))
        for _ in range(4):
            lot.rows(0).clear()
            lot.rows(0).append((0, 0, 0))
            self.assertEqual(len(lot.rows(0)), 2)
            if not lot.done:
                lot.step(0)
        lot.kept(0).clear()
        self.assertEqual(list(zip(lot.kept(0), lot.rows(0))), worked(net, [1, 2, 3])[1:])

    def test_kinds(self):
        net = deep_net(random.Random(6))
        lot = Lot(net, (listed(chunk_of(net, [1, 2, 3], 1)[0]), (2, 3)))
        for _ in range(4):
            self.assertIsInstance(lot.rows(0), list)
            self.assertTrue(all(isinstance(row, tuple) for row in lot.rows(0)))
            if not lot.done:
                lot.step(0)
        self.assertIsInstance(lot.kept(0), list)
        self.assertEqual(len(lot.kept(0)), 2)
        for kept_row in lot.kept(0):
            self.assertIsInstance(kept_row, tuple)
            for pairs in kept_row:
                self.assertIsInstance(pairs, tuple)
                for pair in pairs:
                    self.assertEqual([isinstance(row, tuple) for row in pair], [True, True])
                    self.assertIsInstance(pair, tuple)

    def test_kept_rows_may_be_passed_on(self):
        net = deep_net(random.Random(7))
        text = [1, 2, 3, 1, 0, 2]
        kept = []
        for start in range(0, 6, 2):
            lot = Lot(net, (kept, text[start:start + 2]))
            lot.finish()
            self.assertEqual([lot.rows(0)[0], lot.rows(0)[1]], [last for _, last in worked(net, text)[start:start + 2]])
            kept += lot.kept(0)
        self.assertEqual(kept, [kept_row for kept_row, _ in worked(net, text)])


class TwinTest(unittest.TestCase):
    def test_both_are_led_apart(self):
        net = deep_net(random.Random(8))
        lot = Lot(net, chunk_of(net, [1, 2, 3], 1), ([], [3, 3]))
        lot.step(1)
        twin = lot.twin()
        self.assertIsInstance(twin, Lot)
        self.assertIsNot(twin, lot)
        self.assertEqual([twin.layers_done(at) for at in (0, 1)], [0, 1])
        self.assertEqual([twin.rows(at) for at in (0, 1)], [lot.rows(at) for at in (0, 1)])
        self.assertEqual((len(twin), repr(twin)), (2, "Lot(2 chunks)"))
        before = lot.rows(0)
        lot.step(0)
        self.assertEqual((lot.layers_done(0), twin.layers_done(0), twin.rows(0)), (1, 0, before))
        twin.finish()
        self.assertEqual([lot.layers_done(at) for at in (0, 1)], [1, 1])
        self.assertEqual((lot.done, twin.done), (False, True))
        lot.finish()
        for at in (0, 1):
            self.assertEqual((lot.rows(at), lot.kept(at)), (twin.rows(at), twin.kept(at)))


class ErrorsTest(unittest.TestCase):
    def setUp(self):
        self.net = deep_net(random.Random(9))
        self.lot = Lot(self.net, ([], [1, 2]), ([], [3]))

    def state(self):
        return [(self.lot.layers_done(at), self.lot.rows(at)) for at in (0, 1)]

    def test_any_value_that_is_no_index(self):
        values = odd_values() + [-1, 2, 3, 999999999, "", "0", "a", self.lot, [0], (0,), (1, 2)]
        for _ in range(2):
            before = self.state()
            for value in values:
                for method in (self.lot.step, self.lot.layers_done, self.lot.rows, self.lot.kept):
                    with self.assertRaises(UnknownChunk) as caught:
                        method(value)
                    self.assertIs(caught.exception.at, value)
            self.assertEqual(self.state(), before)
            self.lot.finish()

    def test_finished(self):
        for _ in range(3):
            self.lot.step(1)
        before = self.state()
        with self.assertRaises(Finished) as caught:
            self.lot.step(1)
        self.assertEqual(caught.exception.at, 1)
        self.assertEqual(self.state(), before)
        self.assertEqual(self.lot.kept(1), [worked(self.net, [3])[0][0]])
        self.lot.step(0)
        self.assertEqual(self.lot.layers_done(0), 1)

    def test_unfinished(self):
        self.lot.finish()
        lot = Lot(self.net, ([], [1, 2]), ([], [3]))
        for done in range(3):
            self.assertEqual(lot.layers_done(0), done)
            with self.assertRaises(Unfinished) as caught:
                lot.kept(0)
            self.assertEqual(caught.exception.at, 0)
            lot.step(0)
        self.assertEqual(lot.kept(0), self.lot.kept(0))
        with self.assertRaises(Unfinished) as caught:
            lot.kept(at=1)
        self.assertEqual(caught.exception.at, 1)


if __name__ == "__main__":
    unittest.main()
