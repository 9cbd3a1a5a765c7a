"""Answers: the reasons of [20], and the interface of Answer."""

import unittest

from answersalone.answers import Answer

from standin import odd_values

REASONS = ["end", "full", "cancelled", "live"]


class AnswersTest(unittest.TestCase):
    def test_attributes(self):
        answer = Answer([1, 2], "full")
        self.assertEqual((answer.tokens, answer.why), ((1, 2), "full"))
        self.assertIsInstance(answer.tokens, tuple)

    def test_defaults_and_names(self):
        self.assertEqual((Answer().tokens, Answer().why), ((), "live"))
        self.assertEqual(Answer(why="end", tokens=(3,)), Answer([3], "end"))
        self.assertEqual(Answer((), "live"), Answer())

    def test_the_tokens_are_copied(self):
        tokens = [1, 2]
        answer = Answer(tokens)
        tokens.clear()
        self.assertEqual(answer.tokens, (1, 2))

    def test_complete(self):
        for why in REASONS:
            for tokens in [[], [1]]:
                self.assertIs(Answer(tokens, why).complete, why in ("end", "full"))

    def test_begins(self):
        rows = [(), (1,), (2,), (1, 2), (2, 1), (1, 2, 1)]
        for one in rows:
            for other in rows:
                expected = len(one) <= len(other) and all(a == b for a, b in zip(one, other))
                self.assertIs(Answer(one, "end").begins(Answer(other)), expected, (one, other))
        self.assertTrue(Answer([1]).begins(other=Answer([1], "full")))

    def test_equality(self):
        self.assertTrue(Answer([1], "end") == Answer((1,), "end"))
        self.assertFalse(Answer([1], "end") != Answer((1,), "end"))
        for other in [Answer([1], "full"), Answer([], "end"), Answer([1, 1], "end"), (1,), "end", 1] + odd_values():
            self.assertFalse(Answer([1], "end") == other)
            self.assertTrue(Answer([1], "end") != other)

    def test_len_and_truth(self):
        for tokens in [[], [1], [1] * 16]:
            for why in REASONS:
                self.assertEqual(len(Answer(tokens, why)), len(tokens))
                self.assertIs(bool(Answer(tokens, why)), True)

    def test_repr(self):
        self.assertEqual(repr(Answer([2, 1])), "Answer(2 tokens, live)")
        self.assertEqual(repr(Answer([1], "full")), "Answer(1 tokens, full)")
        self.assertEqual(repr(Answer([], "cancelled")), "Answer(0 tokens, cancelled)")


if __name__ == "__main__":
    unittest.main()
