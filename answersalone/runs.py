"""The runs of an engine, by their age."""


class Run:
    """A run of a request."""

    def __init__(self, request, number, holder):
        self.asked = request
        self.number = number
        # Its number in the cache: the number of the runs that are elder.
        self.holder = holder
        # The last row of the last place that was worked for it, or that the run 0 shared with it.
        self.last = None


class Runs:
    """All runs, by age."""

    def __init__(self):
        self._runs = []
        self._holders = {}

    def enlist(self, request):
        """Puts the runs of a request behind the others."""
        for number in range(request.copies):
            holder = len(self._runs)
            self._holders[(request.name, number)] = holder
            self._runs.append(Run(request, number, holder))

    def by_age(self):
        """The list of all runs."""
        return list(self._runs)

    def holder_of(self, name, number):
        """The holder of a run."""
        return self._holders[(name, number)]

    def pairs_of(self, holders):
        """The tuple of the pairs (name, run) of some holders."""
        runs = [self._runs[holder] for holder in holders]
        return tuple([(run.asked.name, run.number) for run in runs])

    def copies_of(self, run):
        """The list of all runs of the request of a run."""
        first = run.holder - run.number
        return self._runs[first:first + run.asked.copies]
