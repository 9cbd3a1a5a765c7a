"""Walks: texts that a net works place by place."""


class Walk:
    """A text that gets longer, and what a net works for its places."""

    def __init__(self, net, text):
        self._net = net
        self._kept = []
        # The last row of the last place.
        self.last = None
        for token in text:
            self.go_on(token)

    def go_on(self, token):
        """Works the place of a token behind the others."""
        row, self.last = self._net.place(self._kept, token)
        self._kept.append(row)
