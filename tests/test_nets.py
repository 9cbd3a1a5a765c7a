"""Nets: their parts, places, weights and texts: [4], [6], [7], [31], and parts of [3]."""

import copy
import itertools
import random
import unittest

from answersalone.errors import InvalidNet, InvalidText
from answersalone.nets import Net
from answersalone.plain import next_token, plain_answer, plain_tokens, worked
from answersalone.requests import Request
from answersalone.shapes import Shape

from netmodel import listed, places_by_the_words, tupled, weights_by_the_words
from samples import EXAMPLE, example_net, example_parts, some_net, some_parts
from standin import odd_values

PARTS = ["tokens", "cap", "token_rows", "place_rows", "layers", "out_rows", "base"]


class ExampleTest(unittest.TestCase):
    def test_the_places_of_the_document(self):
        self.assertEqual(worked(example_net(), [1, 2, 2]), [
            (((((0, 0), (0, -1)),),), (0, -2)),
            (((((0, 0), (0, 1)),),), (0, 2)),
            (((((0, 0), (0, 0)),),), (0, 0)),
        ])

    def test_the_last_rows_and_weights_of_the_document(self):
        net = example_net()
        rows = [pair[1] for pair in worked(net, net.numbers("abbaaa"))]
        self.assertEqual(rows, [(0, -2), (0, 2), (0, 0), (0, 0), (0, -2), (0, 0)])
        self.assertEqual(
            [net.weights(row) for row in rows],
            [[0, 1, 0], [0, 1, 3], [0, 1, 1], [0, 1, 1], [0, 1, 0], [0, 1, 1]],
        )

    def test_the_answers_of_the_document(self):
        net = example_net()
        for text, expected in [("ab", "baaaaa"), ("aab", "aaaaaa")]:
            request = Request("x", net.numbers(text), 6)
            answer = plain_answer(net, request)
            self.assertEqual((net.characters(answer.tokens), answer.why), (expected, "full"))
            self.assertEqual(net.characters(list(plain_tokens(net, request))), expected)
            for many in range(6):
                token = next_token(net, request, net.numbers(expected[:many]))
                self.assertEqual(net.tokens[token], expected[many])

    def test_by_its_parts(self):
        parts = example_parts()
        net = Net(**parts)
        self.assertEqual(net, example_net())
        self.assertEqual(Net(*[parts[part] for part in PARTS]), net)
        for part in PARTS:
            self.assertEqual(getattr(net, part), tupled(parts[part]))
        self.assertEqual(net.shape, Shape(3, 2, 1, 1))
        self.assertIsInstance(net.shape, Shape)
        self.assertEqual(repr(net), "Net(3 tokens, width 2)")
        self.assertEqual(net.written(), EXAMPLE)

    def test_a_place_of_its_own(self):
        net = example_net()
        self.assertEqual(net.place([], 1), (((((0, 0), (0, -1)),),), (0, -2)))
        kept = [pair[0] for pair in worked(net, [1, 2])]
        self.assertEqual(net.place(kept, 2), (((((0, 0), (0, 0)),),), (0, 0)))


class PlaceTest(unittest.TestCase):
    def test_by_the_words(self):
        draw = random.Random(11)
        for greatest in [0, 1, 1, 1, 2, 9] * 8:
            parts = some_parts(draw, greatest=greatest)
            net = Net(**parts)
            text = [draw.randrange(len(net.tokens)) for _ in range(draw.randint(1, 12))]
            expected = places_by_the_words(parts, text)
            self.assertEqual(worked(net, text), expected)
            for _, row in expected:
                self.assertEqual(net.weights(row), weights_by_the_words(parts, row))
                self.assertEqual(net.weights(list(row)), weights_by_the_words(parts, row))

    def test_all_sizes(self):
        draw = random.Random(12)
        for tokens, width, layers, heads in itertools.product((2, 6), range(1, 5), range(1, 4), (1, 2)):
            parts = some_parts(draw, tokens=tokens, width=width, layers=layers, heads=heads, greatest=2)
            net = Net(**parts)
            self.assertEqual(net.shape, Shape(tokens, width, layers, heads))
            text = [draw.randrange(tokens) for _ in range(7)]
            self.assertEqual(worked(net, text), places_by_the_words(parts, text))
            row, last = net.place([], 0)
            self.assertEqual((len(row), len(row[0]), len(row[0][0]), len(row[0][0][1])), (layers, heads, 2, width))
            self.assertEqual(len(last), width)

    def one_number_net(self, query, key, value, place_rows):
        parts = some_parts(random.Random(1), tokens=2, width=1, layers=1, heads=1, greatest=0)
        parts.update(cap=99, token_rows=[[0], [0]], place_rows=place_rows)
        parts["layers"][0][0][0] = [[[query]], [[key]], [[value]]]
        return Net(**parts)

    def test_the_greatest_score_is_looked_at(self):
        net = self.one_number_net(1, 1, 1, [[1], [5], [2], [3]])
        self.assertEqual([pair[1] for pair in worked(net, [1] * 4)], [(2,), (10,), (7,), (8,)])

    def test_of_equal_scores_the_latest_is_looked_at(self):
        net = self.one_number_net(0, 1, 1, [[1], [5], [2], [3]])
        self.assertEqual([pair[1] for pair in worked(net, [1] * 4)], [(2,), (10,), (4,), (6,)])

    def test_negative_scores(self):
        net = self.one_number_net(-1, 1, 1, [[3], [5], [2], [4]])
        self.assertEqual([pair[1] for pair in worked(net, [1] * 4)], [(6,), (8,), (4,), (6,)])

    def test_the_sum_of_the_heads_is_cut_once(self):
        parts = some_parts(random.Random(1), tokens=2, width=1, layers=1, heads=2, greatest=0)
        parts.update(cap=4, token_rows=[[0], [4]], place_rows=[[0]])
        parts["layers"][0][0] = [[[[0]], [[0]], [[9]]], [[[0]], [[0]], [[-9]]]]
        self.assertEqual(Net(**parts).place([], 1), (((((0,), (36,)), ((0,), (-36,))),), (4,)))

    def test_kept_rows_may_be_lists_and_stay(self):
        draw = random.Random(13)
        for _ in range(10):
            net = some_net(draw, greatest=2)
            text = [draw.randrange(len(net.tokens)) for _ in range(6)]
            pairs = worked(net, text)
            kept = listed([pair[0] for pair in pairs[:-1]])
            before = copy.deepcopy(kept)
            self.assertEqual(net.place(kept, text[-1]), pairs[-1])
            self.assertEqual(net.place(tupled(kept), text[-1]), pairs[-1])
            self.assertEqual(kept, before)

    def test_results_are_tuples(self):
        net = example_net()
        kept = listed([pair[0] for pair in worked(net, [1, 2])])
        row, last = net.place(kept=kept, token=1)
        self.assertEqual(tupled(row), row)
        self.assertIsInstance(last, tuple)
        self.assertIsInstance(net.embedded(1, 0), tuple)
        self.assertIsInstance(net.weights(last), list)

    def test_embedded(self):
        draw = random.Random(14)
        for _ in range(20):
            parts = some_parts(draw)
            net = Net(**parts)
            for token, place in itertools.product(range(len(net.tokens)), [0, 1, 2, 5, 6, 7, 31, 10 ** 9]):
                row = parts["place_rows"][place % len(parts["place_rows"])]
                expected = [one + other for one, other in zip(parts["token_rows"][token], row)]
                expected = tuple(max(-net.cap, min(net.cap, number)) for number in expected)
                self.assertEqual(net.embedded(token, place), expected)
        self.assertEqual(example_net().embedded(place=1, token=0), (-1, 0))

    def test_numbers_of_any_size(self):
        net = example_net()
        self.assertEqual(net.weights((10 ** 40, -10 ** 40)), [0, 10 ** 40 + 1, 0])


class CharactersTest(unittest.TestCase):
    def test_number_of(self):
        net = example_net()
        self.assertEqual([net.number_of(character) for character in ".ab"], [0, 1, 2])
        for value in ["", "c", "ab", ".a", " ", "A", "\n", 0, 1] + odd_values():
            self.assertIsNone(net.number_of(value))
        self.assertEqual(net.number_of(character="b"), 2)

    def test_numbers(self):
        net = example_net()
        self.assertEqual(net.numbers(""), ())
        self.assertEqual(net.numbers("ab.ba"), (1, 2, 0, 2, 1))
        self.assertEqual(net.numbers(string="b"), (2,))
        for value in ["c", "abc", "a b", "ab\n", " ", 0, 12] + odd_values():
            self.assertIsNone(net.numbers(value))

    def test_characters(self):
        net = example_net()
        self.assertEqual(net.characters([]), "")
        self.assertEqual(net.characters(()), "")
        self.assertEqual(net.characters(text=[2, 1, 0, 0]), "ba..")
        self.assertEqual(net.characters((1,)), "a")

    def test_there_and_back(self):
        draw = random.Random(3)
        for _ in range(20):
            net = some_net(draw)
            text = tuple(draw.randrange(len(net.tokens)) for _ in range(20))
            self.assertEqual(net.numbers(net.characters(text)), text)
            self.assertEqual([net.number_of(net.tokens[token]) for token in text], list(text))


class EqualTest(unittest.TestCase):
    def test_equal_in_all_attributes(self):
        draw = random.Random(21)
        for _ in range(5):
            parts = some_parts(draw, tokens=3, width=2)
            self.assertTrue(Net(**parts) == Net(**copy.deepcopy(parts)))
            for part, value in [("tokens", "xyz"), ("cap", 50), ("base", [0, 0, 9])]:
                self.assertTrue(Net(**parts) != Net(**{**parts, part: value}))
            for part in ["token_rows", "place_rows", "out_rows"]:
                other = copy.deepcopy(parts)
                other[part][-1][-1] = 1 if other[part][-1][-1] == 0 else 0
                self.assertFalse(Net(**parts) == Net(**other))
            other = copy.deepcopy(parts)
            other["layers"][-1][1][0][0] = 1 if other["layers"][-1][1][0][0] == 0 else 0
            self.assertFalse(Net(**parts) == Net(**other))
            other = copy.deepcopy(parts)
            other["place_rows"] = other["place_rows"] * 2 if len(other["place_rows"]) < 4 else [[0, 0]]
            self.assertFalse(Net(**parts) == Net(**other))

    def test_other_classes(self):
        net = example_net()
        self.assertFalse(net == EXAMPLE)
        self.assertFalse(net == net.shape)
        self.assertTrue(net != None)  # noqa: E711


class CopiesTest(unittest.TestCase):
    def test_passed_lists_may_be_changed_later(self):
        parts = example_parts()
        net = Net(**parts)
        parts["token_rows"][1][0] = 9
        parts["place_rows"].clear()
        parts["layers"][0][0][0][0][0][0] = 9
        parts["layers"][0][1].clear()
        parts["out_rows"][2] = None
        parts["base"][0] = "no"
        self.assertEqual(net, example_net())
        self.assertEqual(net.written(), EXAMPLE)

    def test_passed_lists_stay_and_tuples_do_as_well(self):
        parts = example_parts()
        net = Net(**parts)
        self.assertEqual(parts, example_parts())
        self.assertEqual(Net(**{part: tupled(value) for part, value in parts.items()}), net)

    def test_told_lists_are_new(self):
        net = example_net()
        net.weights((0, 2)).clear()
        self.assertEqual(net.weights((0, 2)), [0, 1, 3])


class InvalidNetTest(unittest.TestCase):
    def refused(self, part, parts):
        with self.assertRaises(InvalidNet) as caught:
            Net(**parts)
        self.assertEqual(caught.exception.part, part, parts)

    def wrong_tables(self):
        return [[], [[0, 0]], [[0, 0]] * 3, [[0, 0], [0]], [[0, 0], [0, 0, 0]], [[0, 10], [0, 0]], [[0, 0], [-10, 0]],
                [[0, True], [0, 0]], [[0, 0], [0, "0"]], [[0, 0], None], "ab", None, 0, [0, 0], [[[0], 0], [0, 0]]]

    def wrong_rows(self, many):
        """Wrong lists of rows, for the width 2; many are wanted."""
        wrong = [[[0, 0]] * count for count in range(9) if count not in many]
        for bad in [[0], [0, 0, 0], [], [0, 10], [-10, 0], [0, None], [False, 0], ["0", 0], "ab", None, 3, [[0], 0]]:
            for count in many:
                for at in {0, count // 2, count - 1}:
                    rows = [[0, 0] for _ in range(count)]
                    rows[at] = bad
                    wrong.append(rows)
        return wrong

    def wrong_values(self, part):
        right = example_parts()[part]
        odd = [value for value in odd_values() if value != right]
        if part == "tokens":
            return ["", ".", ".abcdef", ".aa", ". a", ".a\n", ".a%", "..", 0, 3, ["a", "b"]] + odd
        if part == "cap":
            return [0, -1, 100, "4", 10 ** 9] + odd
        if part == "base":
            return [[], [0, 1], [0, 1, 1, 1], [0, 1, 10], [-10, 0, 0], [0, True, 1], [0, None, 1], "abc", 7] + odd
        if part in ("token_rows", "out_rows"):
            return self.wrong_rows([3]) + odd + ["abc", 7]
        if part == "place_rows":
            return self.wrong_rows(range(1, 7)) + odd + ["a", 7]
        return self.wrong_layers() + odd + ["a", 7]

    def wrong_layers(self):
        layer = example_parts()["layers"][0]
        head, up = layer[0][0], layer[1]
        wrong = [[], [layer] * 4, [layer, None], [layer, []], [[]], [layer[:2]], [layer + [up]], ["abc"], [7]]
        for heads in [[], [head] * 3, None, "a", 0, [None], [head, []], [[]], ["abc"], [head[:2]], [head + [up]]]:
            wrong += [[[heads, up, up]], [[heads, up, up], layer], [layer, [heads, up, up]]]
        for second in [[head], [head, head, head], []]:
            wrong.append([[[head, head], up, up], [second, up, up]])
        wrong.append([[[head], up, up], [[head, head], up, up]])
        for table in self.wrong_tables():
            wrong += [[[[head], table, up]], [[[head], up, table]], [layer, [[head], up, table]]]
            for at in range(3):
                changed = list(head)
                changed[at] = table
                wrong += [[[[changed], up, up]], [[[head, changed], up, up]]]
        return wrong

    def test_each_part(self):
        for part in PARTS:
            for value in self.wrong_values(part):
                self.refused(part, {**example_parts(), part: value})

    def test_the_first_wrong_word_counts(self):
        for many in range(1, 4):
            for wrong in itertools.combinations(PARTS, many):
                parts = example_parts()
                for part in wrong:
                    parts[part] = None
                self.refused(wrong[0], parts)

    def test_the_width_is_that_of_the_first_token_row(self):
        self.refused("token_rows", {**example_parts(), "token_rows": [[0], [0, 0], [0, 0]]})
        self.refused("place_rows", {**example_parts(), "token_rows": [[0], [0], [0]]})
        self.refused("token_rows", {**example_parts(), "token_rows": [[0] * 5] * 3})
        self.refused("token_rows", {**example_parts(), "token_rows": [[]] * 3})

    def test_the_bounds_are_inside(self):
        parts = example_parts()
        for change in [
            {"cap": 1}, {"cap": 99}, {"base": [-9, 9, 0]}, {"place_rows": [[9, -9]] * 6}, {"place_rows": [[0, 0]]},
            {"layers": parts["layers"] * 3}, {"tokens": "!~&"},
        ]:
            Net(**{**parts, **change})


class TextTest(unittest.TestCase):
    def refused(self, line, text):
        with self.assertRaises(InvalidText) as caught:
            Net.read(text)
        self.assertEqual(caught.exception.line, line, text)

    def test_written(self):
        parts = {
            "tokens": "!~", "cap": 99, "token_rows": [[-9], [9]], "place_rows": [[0]],
            "layers": [[[[[[1]], [[2]], [[3]]], [[[4]], [[5]], [[6]]]], [[7]], [[8]]]] * 2,
            "out_rows": [[-1], [-2]], "base": [0, -3],
        }
        layer = "layer\nhead\nquery 1\nkey 2\nvalue 3\nhead\nquery 4\nkey 5\nvalue 6\nup 7\ndown 8\n"
        text = f"net !~ 99\ntoken -9\ntoken 9\nplace 0\n{layer}{layer}out -1\nout -2\nbase 0 -3\nend\n"
        self.assertEqual(Net(**parts).written(), text)
        self.assertEqual(Net.read(text), Net(**parts))

    def test_there_and_back(self):
        draw = random.Random(31)
        for tokens, width, layers, heads in itertools.product((2, 3, 6), (1, 2, 4), (1, 2, 3), (1, 2)):
            net = some_net(draw, tokens=tokens, width=width, layers=layers, heads=heads)
            again = Net.read(text=net.written())
            self.assertEqual(again, net)
            self.assertEqual(again.shape, net.shape)
            self.assertEqual(again.written(), net.written())

    def test_values_that_are_no_strings(self):
        for value in [0, 5] + odd_values():
            self.refused(0, value)
        self.refused(0, EXAMPLE.split("\n"))

    def test_texts_that_end_too_early(self):
        draw = random.Random(32)
        for _ in range(6):
            lines = some_net(draw).written().split("\n")[:-1]
            for many in range(len(lines)):
                self.refused(many, "".join(line + "\n" for line in lines[:many]))

    def test_characters_behind_the_last_line_feed(self):
        lines = EXAMPLE.split("\n")[:-1]
        for many in range(len(lines)):
            begun = "".join(line + "\n" for line in lines[:many])
            self.refused(many, begun + lines[many])
            self.refused(many, begun + lines[many][:2])
            self.refused(many, begun + " ")
        self.refused(len(lines), EXAMPLE + "x")
        self.refused(len(lines), EXAMPLE + "end")

    def test_lines_behind_the_end(self):
        self.assertEqual(EXAMPLE.count("\n"), 23)
        self.refused(23, EXAMPLE + "\n")
        self.refused(23, EXAMPLE + "end\n")
        self.refused(23, EXAMPLE + EXAMPLE)
        self.refused(23, EXAMPLE + "x\n\n")

    def test_each_line_spoilt(self):
        draw = random.Random(33)
        for _ in range(4):
            lines = some_net(draw).written().split("\n")[:-1]
            for at, line in enumerate(lines):
                for bad in ["", " ", line + " ", " " + line, line + " 0", line.upper(), line + "\t", "x" + line,
                            line.replace(" ", "  ", 1) if " " in line else line * 2, line + "%"]:
                    if at == 1 and bad == line + " 0":
                        # The first token row may be a wider one.
                        continue
                    rest = lines[at + 1:] if draw.random() < 0.5 else []
                    self.refused(at, "".join(row + "\n" for row in lines[:at] + [bad] + rest))

    def test_each_number_spoilt(self):
        lines = EXAMPLE.split("\n")[:-1]
        for at in range(1, len(lines)):
            words = lines[at].split(" ")
            for place in range(1, len(words)):
                for bad in ["10", "-10", "00", "01", "-0", "+1", "-", "", "1.0", "a", "1" * 5000]:
                    changed = words[:place] + [bad] + words[place + 1:]
                    self.refused(at, "\n".join(lines[:at] + [" ".join(changed)] + lines[at + 1:]) + "\n")
                if len(words) > 2 and at > 1:
                    changed = words[:place] + words[place + 1:]
                    self.refused(at, "\n".join(lines[:at] + [" ".join(changed)] + lines[at + 1:]) + "\n")

    def test_the_first_line(self):
        rest = EXAMPLE.split("\n", 1)[1]
        for line in ["net", "net .ab", "net .ab 4 4", "net  .ab 4", "net . 4", "net .abcdef 4", "net .aa 4", "net .a% 4",
                     "net .ab 0", "net .ab 100", "net .ab 04", "net .ab -4", "net .ab +4", "net .ab 4 ", "Net .ab 4",
                     "net 4 .ab", "token 1 1", ""]:
            self.refused(0, f"{line}\n{rest}")

    def test_other_first_lines(self):
        rest = EXAMPLE.split("\n", 1)[1]
        for line, tokens, cap in [("net .ab 1", ".ab", 1), ("net .ab 99", ".ab", 99), ("net 123 4", "123", 4)]:
            net = Net.read(f"{line}\n{rest}")
            self.assertEqual((net.tokens, net.cap), (tokens, cap))

    def spoilt(self, at, *lines):
        """The example with some lines in the place of one."""
        rows = EXAMPLE.split("\n")[:-1]
        return "".join(row + "\n" for row in rows[:at] + list(lines) + rows[at + 1:])

    def test_how_many_lines_there_may_be(self):
        # More lines of a kind than a net can have, or fewer than it must have.
        self.refused(3, self.spoilt(3))
        self.refused(4, self.spoilt(3, "token 0 0", "token 0 0"))
        self.refused(4, self.spoilt(5).replace("place 0 0\n", ""))
        self.refused(10, self.spoilt(5, *["place 0 0"] * 6))
        Net.read(self.spoilt(5, *["place 0 0"] * 5))
        self.refused(9, self.spoilt(8))
        self.refused(9, self.spoilt(9))
        self.refused(10, self.spoilt(9, "query 0 0", "query 0 0"))
        self.refused(21, self.spoilt(19, "out 0 0", "out 0 0"))
        self.refused(20, self.spoilt(19))
        self.refused(22, self.spoilt(21, "base 0 1 1", "base 0 1 1"))
        self.refused(21, self.spoilt(21))

    def test_the_width_of_the_first_token_row(self):
        self.refused(2, self.spoilt(1, "token 0"))
        self.refused(2, self.spoilt(1, "token 0 0 0 0"))
        self.refused(1, self.spoilt(1, "token 0 0 0 0 0"))
        self.refused(1, self.spoilt(1, "token"))

    def test_heads(self):
        head = ["head"] + ["query 0 0"] * 2 + ["key 0 0"] * 2 + ["value 0 0"] * 2
        layer = ["layer"] + head + ["up 0 0"] * 2 + ["down 0 0"] * 2
        twice = ["layer"] + head + head + ["up 0 0"] * 2 + ["down 0 0"] * 2
        opening = EXAMPLE.split("\n")[:6]
        ending = EXAMPLE.split("\n")[18:-1]

        def text(*parts):
            return "".join(line + "\n" for line in opening + sum(parts, []) + ending)

        for many in range(1, 4):
            self.assertEqual(Net.read(text(*[layer] * many)).shape, Shape(3, 2, many, 1))
            self.assertEqual(Net.read(text(*[twice] * many)).shape, Shape(3, 2, many, 2))
        self.refused(6 + 36, text(layer, layer, layer, layer))
        self.refused(6 + 57, text(twice, twice, twice, twice))
        # The second layer has more or fewer heads than the first one.
        self.refused(6 + 12 + 8, text(layer, twice))
        self.refused(6 + 19 + 8, text(twice, layer))
        self.refused(6 + 1 + 14, text(["layer"] + head * 3 + ["up 0 0"] * 2 + ["down 0 0"] * 2))
        self.refused(6 + 1, text(["layer"] + ["up 0 0"] * 2 + ["down 0 0"] * 2))

    def test_no_layer(self):
        rows = EXAMPLE.split("\n")
        self.refused(6, "\n".join(rows[:6] + rows[18:]))


if __name__ == "__main__":
    unittest.main()
