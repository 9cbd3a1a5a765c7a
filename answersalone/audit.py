"""Audits: whether all lines of a journal can stand, and tell what the plain answers are."""

from answersalone.auditor import Auditor
from answersalone.plain import plain_answer
from answersalone.records import token_line
from answersalone.words import END, number_word


class Verdict:
    """What an audit found: the first line that does not stand and the word for it, or none."""

    def __init__(self, line=None, why=""):
        self.line = line
        self.why = why

    def __eq__(self, other):
        return isinstance(other, Verdict) and self.line == other.line and self.why == other.why

    def __bool__(self):
        return self.line is None

    def __repr__(self):
        if self.line is None:
            return "Verdict(right)"
        return f"Verdict({number_word(self.line)}, {self.why})"


def audit(net, text):
    """The verdict on the text of a journal."""
    if not isinstance(text, str):
        return Verdict(0, "form")
    auditor = Auditor(net)
    lines = text.split("\n")
    for at, line in enumerate(lines[:-1]):
        wrong = auditor.wrong(line)
        if wrong is not None:
            return Verdict(at, wrong)
    # What stands behind the last line feed lacks its own.
    return Verdict() if lines[-1] == "" else Verdict(len(lines) - 1, "form")


def plain_lines(net, *requests):
    """The list of the lines of a journal that has the requests and their plain answers."""
    told = []
    for request in requests:
        for run in range(request.copies):
            told.extend(_told_lines(net, request, run))
    return [request.entry(net.tokens) for request in requests] + told


def _told_lines(net, request, run):
    answer = plain_answer(net, request, run)
    tokens = list(answer.tokens)
    if answer.why == "end":
        tokens.append(END)
    return [token_line(request.name, run, net.tokens[token]) for token in tokens]
