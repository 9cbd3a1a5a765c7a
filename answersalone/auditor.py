"""Reading a journal beside the plain answers of its runs."""

from answersalone.errors import InvalidLine
from answersalone.journal import Journal
from answersalone.plain import token_behind
from answersalone.records import TOKEN, read_record
from answersalone.walks import Walk
from answersalone.words import END


class Auditor:
    """A journal that is read line by line, and the whole texts of its runs, as far as they are told."""

    def __init__(self, net):
        self._net = net
        self._journal = Journal(net.tokens)
        self._walks = {}

    def wrong(self, line):
        """Reads a line; returns the word that tells why it does not stand, None if it does."""
        try:
            self._journal.enter(line)
        except InvalidLine as error:
            return error.why
        record = read_record(line, self._net.tokens)
        if record[0] != TOKEN:
            return None
        _, name, run, token = record
        return None if self._is_next(name, run, token) else "token"

    def _is_next(self, name, run, token):
        """Whether a token, which the journal tells already, is the next one of the plain answer of its run."""
        request = self._journal.request(name)
        # The token stands as the last one, unless it is the end, which an answer leaves out.
        tokens = self._journal.answer(name, run).tokens
        ahead = tokens if token == END else tokens[:-1]
        if (name, run) not in self._walks:
            self._walks[(name, run)] = Walk(self._net, request.text)
        walk = self._walks[(name, run)]
        if token != token_behind(self._net, request, ahead, run, walk.last):
            return False
        walk.go_on(token)
        return True
