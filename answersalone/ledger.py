"""Ledgers: the journal of an engine, which stands on its disk, and the steps of its calls."""

from answersalone.errors import Crashed


class Ledger:
    """A journal and its disk, which are written step by step; a step behind the stop crashes."""

    def __init__(self, journal, disk):
        self.journal = journal
        self.disk = disk
        self.crashed = False
        self._stop = None
        self._taken = 0

    def begin_call(self, stop):
        """Begins to count the steps of a call, which has a stop or None."""
        self._stop = stop
        self._taken = 0

    def step(self):
        """Counts a step that is to be done now."""
        if self._taken == self._stop:
            self.crashed = True
            raise Crashed(self._stop)
        self._taken += 1

    def write(self, line):
        """Writes a line."""
        self.step()
        self.disk.write(line)
        self.journal.enter(line)

    def sync(self):
        """Syncs the disk."""
        self.step()
        self.disk.sync()
