"""Pages and tails: tokens with as many rows, and the holders that hold them."""


class Page:
    """A page of a cache: what stands in it does not change any more."""

    def __init__(self, parent, path, stored, last):
        # The number of the page ahead of it, and all tokens on the way from the root, its own included.
        self.parent = parent
        self.path = path
        self.stored = stored
        # The last round of [16], and the number of its child pages.
        self.last = last
        self.children = 0
        self.users = {}

    def twin(self):
        """An independent page in the same state."""
        other = Page(self.parent, self.path, self.stored, self.last)
        other.children = self.children
        other.users = dict(self.users)
        return other


class Tail:
    """A tail of a cache: it stands behind a chain of pages, and may get longer."""

    def __init__(self, own, stored):
        self.own = own
        self.stored = stored
        self.users = {}

    def put(self, token, row):
        """Puts a token and a row behind the others."""
        self.own = (*self.own, token)
        self.stored = (*self.stored, row)

    def twin(self):
        """An independent tail in the same state."""
        other = Tail(self.own, self.stored)
        other.users = dict(self.users)
        return other
