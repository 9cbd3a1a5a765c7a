"""What a layer of a net does with the row of a place."""

from answersalone.tables import added, cut, dot, raised, times


def through_layer(layer, cap, earlier, row):
    """The pairs that a place keeps in a layer, and its row behind it.

    earlier has, for each place ahead, the pairs that the heads of this layer kept for it.
    """
    heads, up, down = layer
    pairs = tuple([(times(key, row), times(value, row)) for _, key, value in heads])
    total = row
    for at, head in enumerate(heads):
        kept = [ahead[at] for ahead in earlier] + [pairs[at]]
        total = added(total, looked_at(times(head[0], row), kept))
    middle = cut(total, cap)
    units = raised(times(up, middle))
    return pairs, cut(added(middle, times(down, units)), cap)


def looked_at(query, kept):
    """The second row of the pair whose first row has the greatest score, of equal ones the latest."""
    scores = [dot(query, pair[0]) for pair in kept]
    greatest = max(scores)
    latest = max([place for place, score in enumerate(scores) if score == greatest])
    return kept[latest][1]
