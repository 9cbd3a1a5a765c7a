"""Rows and tables of numbers. Results are tuples, arguments stay as they are."""


def times(table, row):
    """A table times a row."""
    return tuple([dot(line, row) for line in table])


def added(one, other):
    """The sum of two rows."""
    return tuple([first + second for first, second in zip(one, other)])


def cut(row, cap):
    """The row with each number put into the range from -cap to cap."""
    return tuple([max(-cap, min(cap, number)) for number in row])


def dot(one, other):
    """The sum of the products of the items of two rows."""
    return sum([first * second for first, second in zip(one, other)])


def raised(row):
    """The row with each negative number replaced by 0."""
    return tuple([max(0, number) for number in row])


def as_tuples(value):
    """A value with tuples in the place of all lists within it."""
    if isinstance(value, (list, tuple)):
        return tuple([as_tuples(item) for item in value])
    return value
