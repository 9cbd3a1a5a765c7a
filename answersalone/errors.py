"""The errors of the package. The arguments of an error are its attributes."""


class InvalidError(ValueError):
    """A value that is not as it must be."""


class UnknownError(LookupError):
    """A name or number that stands for nothing."""


class StateError(RuntimeError):
    """A call that cannot be done in the present state."""


class InvalidNet(InvalidError):
    """A part of a net is wrong."""

    def __init__(self, part):
        self.part = part


class InvalidText(InvalidError):
    """A line of a text is wrong or lacks."""

    def __init__(self, line):
        self.line = line


class InvalidAutomaton(InvalidError):
    """A part of an automaton, or its word, is wrong."""

    def __init__(self, part):
        self.part = part


class InvalidRequest(InvalidError):
    """A field of a request is wrong, or does not fit."""

    def __init__(self, field):
        self.field = field


class InvalidSetting(InvalidError):
    """A setting is not in its bounds."""

    def __init__(self, field):
        self.field = field


class InvalidLine(InvalidError):
    """A line of a journal cannot stand, for the reason that a word tells."""

    def __init__(self, line, why):
        self.line = line
        self.why = why


class InvalidThing(InvalidError):
    """An item of a machine is no thing."""

    def __init__(self, machine, at):
        self.machine = machine
        self.at = at


class InvalidSplit(InvalidError):
    """A thing does not stand in the machines just once."""

    def __init__(self, kind, layer, number):
        self.kind = kind
        self.layer = layer
        self.number = number


class InvalidOrder(InvalidError):
    """The order of a crew is wrong."""


class InvalidWeights(InvalidError):
    """Weights are wrong, or a share by which nothing can be divided."""


class TooMany(InvalidError):
    """There are as many requests as there may be."""

    def __init__(self, number):
        self.number = number


class TooSmall(InvalidError):
    """The room is too small for a request."""

    def __init__(self, name):
        self.name = name


class Twice(InvalidError):
    """A name that a request has already."""

    def __init__(self, name):
        self.name = name


class UnknownName(UnknownError):
    """No request has this name."""

    def __init__(self, name):
        self.name = name


class UnknownRun(UnknownError):
    """The request has no run of this number."""

    def __init__(self, run):
        self.run = run


class UnknownHolder(UnknownError):
    """No holder of this number is on."""

    def __init__(self, holder):
        self.holder = holder


class UnknownChunk(UnknownError):
    """No chunk has this index."""

    def __init__(self, at):
        self.at = at


class Crashed(StateError):
    """A call would have had more steps than its stop."""

    def __init__(self, stop):
        self.stop = stop


class Dead(StateError):
    """The engine has crashed before."""


class Finished(StateError):
    """The chunk is behind all layers."""

    def __init__(self, at):
        self.at = at


class Unfinished(StateError):
    """The chunk is not behind all layers."""

    def __init__(self, at):
        self.at = at


class AlreadyOn(StateError):
    """The holder is on already."""

    def __init__(self, holder):
        self.holder = holder
