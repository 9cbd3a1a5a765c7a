"""Journals: lines that tell what was asked, answered and cancelled."""

from answersalone.answers import Answer
from answersalone.errors import InvalidLine, UnknownName, UnknownRun
from answersalone.records import ASK, CANCEL, TOKEN, read_record
from answersalone.words import END, is_number

MOST_REQUESTS = 16


class Journal:
    """A journal for the tokens of a net."""

    def __init__(self, tokens):
        self._tokens = tokens
        self._lines = []
        self._requests = {}
        # For each run, a pair (name, number), the tokens of its token lines, the end included.
        self._told = {}
        self._cancelled = {}

    @staticmethod
    def read(tokens, text):
        """The journal of a text."""
        if not isinstance(text, str):
            raise InvalidLine(0, "form")
        journal = Journal(tokens)
        lines = text.split("\n")
        for line in lines[:-1]:
            journal.enter(line)
        if lines[-1] != "":
            raise InvalidLine(len(lines) - 1, "form")
        return journal

    def enter(self, line):
        """Puts a line behind the others."""
        record = read_record(line, self._tokens)
        wrong = self._wrong(record)
        if wrong is not None:
            raise InvalidLine(len(self._lines), wrong)
        self._lines.append(line)
        word, *told = record
        if word == ASK:
            self._ask(told[0])
        elif word == TOKEN:
            self._told[(told[0], told[1])].append(told[2])
        else:
            self._cancelled[told[0]] = True

    def lines(self):
        """The list of the lines."""
        return list(self._lines)

    def written(self):
        """The text, with a line feed behind each line."""
        return "".join([f"{line}\n" for line in self._lines])

    def names(self):
        """The list of the names of the requests, in the order of the ask lines."""
        return list(self._requests)

    def request(self, name):
        """The request of a name."""
        if name not in self:
            raise UnknownName(name)
        return self._requests[name]

    def answer(self, name, run=0):
        """The answer of a run."""
        request = self.request(name)
        if not is_number(run, 0, request.copies - 1):
            raise UnknownRun(run)
        tokens = [token for token in self._told[(name, run)] if token != END]
        return Answer(tokens, self._reason(request, run))

    def live(self):
        """The list of the pairs (name, run) of the live runs, by age."""
        return [pair for request in self._requests.values() for pair in self._live_runs(request)]

    def _ask(self, request):
        self._requests[request.name] = request
        for run in range(request.copies):
            self._told[(request.name, run)] = []

    def _reason(self, request, run):
        told = self._told[(request.name, run)]
        if told and told[-1] == END:
            return "end"
        if len(told) == request.most:
            return "full"
        return "cancelled" if request.name in self._cancelled else "live"

    def _live_runs(self, request):
        return [(request.name, run) for run in range(request.copies) if self._reason(request, run) == "live"]

    def _wrong(self, record):
        """The word that tells why a record cannot stand behind the lines, None if it can."""
        if record is None:
            return "form"
        if record[0] == ASK:
            return self._wrong_ask(record[1])
        if record[1] not in self._requests:
            return "name"
        request = self._requests[record[1]]
        if record[0] == CANCEL:
            return None if self._live_runs(request) else "late"
        if record[2] >= request.copies:
            return "run"
        return None if self._reason(request, record[2]) == "live" else "late"

    def _wrong_ask(self, request):
        if len(self._requests) >= MOST_REQUESTS:
            return "many"
        return "double" if request.name in self._requests else None

    def __contains__(self, name):
        return isinstance(name, str) and name in self._requests

    def __iter__(self):
        return iter(self._lines)

    def __len__(self):
        return len(self._lines)

    def __bool__(self):
        # A journal without lines is a journal, too.
        return True

    def __repr__(self):
        return f"Journal({len(self._lines)} lines)"
