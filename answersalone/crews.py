"""Crews: machines that work a net together, each with its own things."""

from answersalone.errors import InvalidOrder, InvalidSetting
from answersalone.machines import through_machines, weights_by
from answersalone.splits import Split
from answersalone.tables import as_tuples
from answersalone.words import is_number


class Crew:
    """A net that is worked by the machines of a split; order is the order in which their sums are taken."""

    def __init__(self, net, layout, *, order=None):
        if not isinstance(layout, Split) or layout.shape != net.shape:
            raise InvalidSetting("layout")
        if order is not None and not _is_order(order, len(layout)):
            raise InvalidOrder()
        self.net = net
        self.layout = layout
        self.tokens = net.tokens
        self.shape = net.shape
        self.order = tuple(range(len(layout))) if order is None else tuple(order)

    def embedded(self, token, place):
        """The cut sum of the token row of a token and the place row of a place."""
        return self.net.embedded(token, place)

    def place(self, kept, token):
        """The pair (kept row, last row) of the place behind the kept rows of a list, with this token."""
        # Of the kept rows each machine is given the pairs of its own heads, and nothing else.
        held = [[self._own_pairs(row, machine) for row in kept] for machine in self.order]
        present = self.embedded(token, len(kept))
        kept_row = []
        for layer in range(self.shape.layers):
            pairs, present = through_machines(self.net, self._machines(), layer, held, present)
            kept_row.append(tuple([pairs[head] for head in range(self.shape.heads)]))
        return tuple(kept_row), present

    def weights(self, row):
        """The list of the weights of a last row."""
        return weights_by(self.net, self._machines(), row)

    def number_of(self, character):
        """The number of a token, None for any other value."""
        return self.net.number_of(character)

    def numbers(self, string):
        """The tuple of the token numbers of a string, None for any value that is no string of tokens."""
        return self.net.numbers(string)

    def characters(self, text):
        """The string for a text."""
        return self.net.characters(text)

    def portion(self, row, machine):
        """What a machine keeps of a kept row: the tuple of the pairs ((layer, head), pair) of its heads."""
        pairs = self._own_pairs(row, machine)
        return tuple([(head, as_tuples(pairs[head])) for head in sorted(pairs)])

    def joined(self, portions):
        """The kept row of the portions of all machines."""
        pairs = {}
        for held in portions:
            for head, pair in held:
                pairs[tuple(head)] = as_tuples(pair)
        layers = []
        for layer in range(self.shape.layers):
            layers.append(tuple([pairs[(layer, head)] for head in range(self.shape.heads)]))
        return tuple(layers)

    def _machines(self):
        return [self.layout.machines[machine] for machine in self.order]

    def _own_pairs(self, row, machine):
        """The pairs of the heads of a machine in a kept row, by layer and head."""
        things = self.layout.machines[machine]
        return {(layer, number): row[layer][number] for kind, layer, number in things if kind == "head"}

    def __repr__(self):
        return f"Crew({len(self.order)} machines)"


def _is_order(order, many):
    if not isinstance(order, (list, tuple)):
        return False
    if not all([is_number(machine, 0, many - 1) for machine in order]):
        return False
    return sorted(order) == list(range(many))
