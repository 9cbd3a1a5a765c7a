"""Answers: tokens, and the reason why there are no more of them."""

COMPLETE = ("end", "full")


class Answer:
    """An answer of a run, complete or not."""

    def __init__(self, tokens=(), why="live"):
        self.tokens = tuple(tokens)
        self.why = why

    @property
    def complete(self):
        """Whether it has come to its end, or has as many tokens as it may have."""
        return self.why in COMPLETE

    def begins(self, other):
        """Whether its tokens are the first ones of those of another answer."""
        return other.tokens[:len(self.tokens)] == self.tokens

    def __eq__(self, other):
        return isinstance(other, Answer) and self.tokens == other.tokens and self.why == other.why

    def __len__(self):
        return len(self.tokens)

    def __bool__(self):
        # An answer without tokens is an answer, too.
        return True

    def __repr__(self):
        return f"Answer({len(self.tokens)} tokens, {self.why})"
