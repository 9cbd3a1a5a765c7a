"""Nets: small nets of integers that read a text and weigh the next token."""

from answersalone.errors import InvalidNet, InvalidText
from answersalone.layers import through_layer
from answersalone.netlines import lines_of, read_parts
from answersalone.netparts import wrong_part
from answersalone.shapes import Shape
from answersalone.tables import added, as_tuples, cut, dot


class Net:
    """A net: its tokens, its cap, and its rows and tables."""

    def __init__(self, tokens, cap, token_rows, place_rows, layers, out_rows, base):
        wrong = wrong_part(tokens, cap, token_rows, place_rows, layers, out_rows, base)
        if wrong is not None:
            raise InvalidNet(wrong)
        self.tokens = tokens
        self.cap = cap
        self.token_rows = as_tuples(token_rows)
        self.place_rows = as_tuples(place_rows)
        self.layers = as_tuples(layers)
        self.out_rows = as_tuples(out_rows)
        self.base = as_tuples(base)
        self.shape = Shape(len(tokens), len(token_rows[0]), len(layers), len(layers[0][0]))

    @staticmethod
    def read(text):
        """The net of a text."""
        if not isinstance(text, str):
            raise InvalidText(0)
        parts = read_parts(text)
        return Net(*parts)

    def embedded(self, token, place):
        """The cut sum of the token row of a token and the place row of a place."""
        place_row = self.place_rows[place % len(self.place_rows)]
        return cut(added(self.token_rows[token], place_row), self.cap)

    def place(self, kept, token):
        """The pair (kept row, last row) of the place behind the kept rows of a list, with this token."""
        row = self.embedded(token, len(kept))
        kept_row = []
        for at, layer in enumerate(self.layers):
            pairs, row = through_layer(layer, self.cap, [ahead[at] for ahead in kept], row)
            kept_row.append(pairs)
        return tuple(kept_row), row

    def weights(self, row):
        """The list of the weights of a last row."""
        return [max(0, dot(out, row) + number) for out, number in zip(self.out_rows, self.base)]

    def number_of(self, character):
        """The number of a token, None for any other value."""
        if not isinstance(character, str) or len(character) != 1 or character not in self.tokens:
            return None
        return self.tokens.index(character)

    def numbers(self, string):
        """The tuple of the token numbers of a string, None for any value that is no string of tokens."""
        if not isinstance(string, str):
            return None
        numbers = tuple([self.number_of(character) for character in string])
        return None if None in numbers else numbers

    def characters(self, text):
        """The string for a text."""
        return "".join([self.tokens[token] for token in text])

    def written(self):
        """The text of the net."""
        return "".join([f"{line}\n" for line in lines_of(self)])

    def __eq__(self, other):
        return (
            isinstance(other, Net)
            and self.tokens == other.tokens
            and self.cap == other.cap
            and self.token_rows == other.token_rows
            and self.place_rows == other.place_rows
            and self.layers == other.layers
            and self.out_rows == other.out_rows
            and self.base == other.base
        )

    def __repr__(self):
        return f"Net({len(self.tokens)} tokens, width {self.shape.width})"
