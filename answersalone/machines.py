"""Machines, which are lists of things: what they tell for a row, and the sums of it."""

from answersalone.layers import looked_at
from answersalone.tables import added, cut, dot, raised, times


def through_machines(net, machines, layer, held, row):
    """The pairs that a place keeps in a layer, by the numbers of the heads, and its row behind the layer.

    held has, for each machine and each place ahead, what this machine keeps of it: the pair of (layer, head).
    """
    pairs = {}
    total = row
    for things, earlier in zip(machines, held):
        for number, pair, told in _told_by_heads(net, things, layer, earlier, row):
            pairs[number] = pair
            total = added(total, told)
    middle = cut(total, net.cap)
    total = middle
    for things in machines:
        for told in _told_by_units(net, things, layer, middle):
            total = added(total, told)
    return pairs, cut(total, net.cap)


def weights_by(net, machines, row):
    """The list of the weights of a last row."""
    sums = [0] * len(net.tokens)
    for things in machines:
        for token in _numbers_of(things, "out", 0):
            sums[token] = sums[token] + dot(net.out_rows[token], row) + net.base[token]
    return list(raised(sums))


def _numbers_of(things, kind, layer):
    return [number for word, at, number in things if word == kind and at == layer]


def _told_by_heads(net, things, layer, earlier, row):
    """For each head of a machine in a layer its number, the pair that it keeps, and the row that it tells."""
    found = []
    for number in _numbers_of(things, "head", layer):
        query, key, value = net.layers[layer][0][number]
        pair = (times(key, row), times(value, row))
        kept = [ahead[(layer, number)] for ahead in earlier] + [pair]
        found.append((number, pair, looked_at(times(query, row), kept)))
    return found


def _told_by_units(net, things, layer, row):
    """For each unit of a machine in a layer the row that it tells."""
    _, up, down = net.layers[layer]
    found = []
    for number in _numbers_of(things, "unit", layer):
        strength = max(0, dot(up[number], row))
        found.append(tuple([line[number] * strength for line in down]))
    return found
