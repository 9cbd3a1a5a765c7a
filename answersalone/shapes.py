"""Shapes of nets, and the things of a shape."""

from answersalone.errors import InvalidSetting
from answersalone.words import is_number

LEAST_TOKENS = 2
MOST_TOKENS = 6
MOST_WIDTH = 4
MOST_LAYERS = 3
MOST_HEADS = 2


class Shape:
    """How many tokens, numbers in a row, layers, and heads in each layer a net has."""

    def __init__(self, tokens, width, layers, heads):
        bounds = [
            ("tokens", tokens, LEAST_TOKENS, MOST_TOKENS),
            ("width", width, 1, MOST_WIDTH),
            ("layers", layers, 1, MOST_LAYERS),
            ("heads", heads, 1, MOST_HEADS),
        ]
        for field, value, least, most in bounds:
            if not is_number(value, least, most):
                raise InvalidSetting(field)
        self.tokens = tokens
        self.width = width
        self.layers = layers
        self.heads = heads

    def things(self):
        """The list of all things: for each layer its heads, then its units; behind all layers the outs."""
        found = []
        for layer in range(self.layers):
            found.extend([("head", layer, number) for number in range(self.heads)])
            found.extend([("unit", layer, number) for number in range(self.width)])
        found.extend([("out", 0, number) for number in range(self.tokens)])
        return found

    def __eq__(self, other):
        return (
            isinstance(other, Shape)
            and self.tokens == other.tokens
            and self.width == other.width
            and self.layers == other.layers
            and self.heads == other.heads
        )

    def __repr__(self):
        return f"Shape({self.tokens}, {self.width}, {self.layers}, {self.heads})"
