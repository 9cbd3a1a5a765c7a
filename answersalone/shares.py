"""Shares: fractions, as exact numbers."""

from math import gcd

from answersalone.errors import InvalidWeights
from answersalone.words import number_word


class Share:
    """A fraction in lowest terms, with a bottom above 0."""

    def __init__(self, top, bottom=1):
        common = gcd(top, bottom)
        if bottom < 0:
            common = -common
        self.top = top // common
        self.bottom = bottom // common

    def below(self, other):
        """Whether it is less than another share."""
        return self.top * other.bottom < other.top * self.bottom

    def over(self, other):
        """The quotient of this share and another one."""
        if other.top == 0:
            raise InvalidWeights()
        return Share(self.top * other.bottom, self.bottom * other.top)

    def __add__(self, other):
        if not isinstance(other, Share):
            return NotImplemented
        return Share(self.top * other.bottom + other.top * self.bottom, self.bottom * other.bottom)

    def __sub__(self, other):
        if not isinstance(other, Share):
            return NotImplemented
        return Share(self.top * other.bottom - other.top * self.bottom, self.bottom * other.bottom)

    def __mul__(self, other):
        if not isinstance(other, Share):
            return NotImplemented
        return Share(self.top * other.top, self.bottom * other.bottom)

    def __neg__(self):
        return Share(-self.top, self.bottom)

    def __eq__(self, other):
        return isinstance(other, Share) and self.top == other.top and self.bottom == other.bottom

    def __bool__(self):
        return bool(self.top != 0)

    def __str__(self):
        if self.bottom == 1:
            return f"{number_word(self.top)}"
        return f"{number_word(self.top)}/{number_word(self.bottom)}"

    def __repr__(self):
        return f"Share({number_word(self.top)}, {number_word(self.bottom)})"
