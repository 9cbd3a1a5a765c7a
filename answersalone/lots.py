"""Lots: several chunks of one net, which are taken through the layers in any order."""

from answersalone.chunks import begun, stepped
from answersalone.errors import Finished, Unfinished, UnknownChunk
from answersalone.words import is_number


class Lot:
    """Some chunks, pairs of a list of kept rows and a list of the tokens behind them."""

    def __init__(self, net, *chunks):
        self._net = net
        self._chunks = [begun(net, kept, tokens) for kept, tokens in chunks]

    @property
    def done(self):
        """Whether all chunks are behind all layers."""
        return all([self._is_through(chunk) for chunk in self._chunks])

    def step(self, at):
        """Takes a chunk through its next layer."""
        chunk = self._chunk(at)
        if self._is_through(chunk):
            raise Finished(at)
        self._chunks[at] = stepped(self._net, chunk)

    def layers_done(self, at):
        """The number of the layers that a chunk went through."""
        return len(self._chunk(at).passed)

    def rows(self, at):
        """The list of the rows of the new places of a chunk at present."""
        return list(self._chunk(at).present)

    def kept(self, at):
        """The list of the kept rows of the new places of a chunk."""
        chunk = self._chunk(at)
        if not self._is_through(chunk):
            raise Unfinished(at)
        return list(zip(*chunk.passed))

    def finish(self):
        """Steps all chunks to their ends."""
        self._chunks = [self._through_all(chunk) for chunk in self._chunks]

    def twin(self):
        """An independent lot in the same state."""
        other = Lot(self._net)
        other._chunks = list(self._chunks)
        return other

    def _chunk(self, at):
        if not is_number(at, 0, len(self._chunks) - 1):
            raise UnknownChunk(at)
        return self._chunks[at]

    def _is_through(self, chunk):
        return len(chunk.passed) == len(self._net.layers)

    def _through_all(self, chunk):
        while not self._is_through(chunk):
            chunk = stepped(self._net, chunk)
        return chunk

    def __len__(self):
        return len(self._chunks)

    def __repr__(self):
        return f"Lot({len(self._chunks)} chunks)"
