"""Chunks: new places of a text behind kept ones, which are worked layer by layer."""

from answersalone.layers import through_layer
from answersalone.tables import as_tuples


class Chunk:
    """The new places of a chunk behind some of the layers."""

    def __init__(self, ahead, present, passed):
        # The kept rows of the places ahead, and the rows of the new places.
        self.ahead = ahead
        self.present = present
        # For each layer that it went through, the pairs that the heads kept for each new place.
        self.passed = passed


def begun(net, kept, tokens):
    """The chunk of the tokens behind the kept rows, ahead of the first layer."""
    rows = [net.embedded(token, place) for place, token in enumerate(tokens, len(kept))]
    return Chunk(as_tuples(kept), tuple(rows), ())


def stepped(net, chunk):
    """The chunk behind its next layer."""
    layer = len(chunk.passed)
    seen = [kept_row[layer] for kept_row in chunk.ahead]
    rows = []
    for present in chunk.present:
        pairs, row = through_layer(net.layers[layer], net.cap, seen, present)
        # A new place looks at the new places ahead of it, too.
        seen.append(pairs)
        rows.append(row)
    return Chunk(chunk.ahead, tuple(rows), (*chunk.passed, tuple(seen[len(chunk.ahead):])))
