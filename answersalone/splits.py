"""Splits of a net over machines, and nets that part those that are none."""

from answersalone.errors import InvalidSetting, InvalidSplit, InvalidThing
from answersalone.machines import through_machines, weights_by
from answersalone.netparts import GREATEST_CAP
from answersalone.nets import Net
from answersalone.shapes import MOST_LAYERS, MOST_TOKENS
from answersalone.words import is_number

MOST_MACHINES = 5
THING_ITEMS = 3
PARTING_TOKENS = ".abcde"


class Split:
    """Machines in which each thing of a shape stands just once."""

    def __init__(self, shape, *machines):
        if not 1 <= len(machines) <= MOST_MACHINES:
            raise InvalidSetting("machines")
        for at, machine in enumerate(machines):
            wrong = _wrong_item(shape, machine)
            if wrong is not None:
                raise InvalidThing(at, wrong)
        twice_or_never = wrong_thing(shape, machines)
        if twice_or_never is not None:
            kind, layer, number = twice_or_never
            raise InvalidSplit(kind, layer, number)
        self.shape = shape
        self.machines = tuple([_things_of(machine) for machine in machines])

    def machine_of(self, thing):
        """The index of the machine of a thing, None for any value that is no thing."""
        if not is_thing(self.shape, thing):
            return None
        return [tuple(thing) in machine for machine in self.machines].index(True)

    def __eq__(self, other):
        return isinstance(other, Split) and self.shape == other.shape and self.machines == other.machines

    def __len__(self):
        return len(self.machines)

    def __repr__(self):
        return f"Split({len(self.machines)} machines)"


def is_thing(shape, value):
    """Whether any value is a thing of the shape."""
    if not isinstance(value, (list, tuple)) or len(value) != THING_ITEMS:
        return False
    kind, layer, number = value
    # For Python True and False are 1 and 0: numbers have to be told from them first.
    if not is_number(layer, 0, MOST_LAYERS - 1) or not is_number(number, 0, MOST_TOKENS - 1):
        return False
    return (kind, layer, number) in shape.things()


def wrong_thing(shape, machines):
    """The first thing of the shape that does not stand in the machines just once, None if there is none."""
    standing = [thing for machine in machines for thing in _things_of(machine)]
    for thing in shape.things():
        if standing.count(thing) != 1:
            return thing
    return None


def summed(net, machines, token):
    """The pair (last row, weights) of the text with this token alone, by the sums of any machines."""
    row = net.embedded(token, 0)
    for layer in range(net.shape.layers):
        _, row = through_machines(net, machines, layer, [[] for _ in machines], row)
    return row, tuple(weights_by(net, machines, row))


def parting_net(shape, thing):
    """The net for which machines that have the thing not just once tell other rows or weights."""
    kind, layer, number = thing
    first = 0 if kind == "out" else 1
    token_row = [first] + [0] * (shape.width - 1)
    layers = [_parting_layer(shape, kind if at == layer else "", number) for at in range(shape.layers)]
    return Net(
        PARTING_TOKENS[:shape.tokens],
        GREATEST_CAP,
        [token_row] * shape.tokens,
        [[0] * shape.width],
        layers,
        [[0] * shape.width] * shape.tokens,
        [1 if kind == "out" and token == number else 0 for token in range(shape.tokens)],
    )


def _parting_layer(shape, kind, number):
    width = shape.width
    heads = []
    for head in range(shape.heads):
        value = _table(width, (0, 0) if kind == "head" and head == number else None)
        heads.append([_table(width, None), _table(width, None), value])
    if kind != "unit":
        return [heads, _table(width, None), _table(width, None)]
    return [heads, _table(width, (number, 0)), _table(width, (0, number))]


def _table(width, spot):
    """The table with 1 at a spot, a pair (row, item), and 0 everywhere else."""
    return [[1 if (row, item) == spot else 0 for item in range(width)] for row in range(width)]


def _wrong_item(shape, machine):
    """The index of the first item that is no thing, -1 if the machine is no list, None if it is right."""
    if not isinstance(machine, (list, tuple)):
        return -1
    for at, item in enumerate(machine):
        if not is_thing(shape, item):
            return at
    return None


def _things_of(machine):
    return tuple([tuple(thing) for thing in machine])
