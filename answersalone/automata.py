"""Automata, which tell what an answer may be, and their words."""

from answersalone.errors import InvalidAutomaton
from answersalone.words import DIGITS, is_number

MOST_STATES = 6
MOST_COLUMNS = 5


class Automaton:
    """An automaton: for each state a row of next states, and the closing states."""

    def __init__(self, table, closing=()):
        if not _is_table(table):
            raise InvalidAutomaton("table")
        if not _is_closing(closing, len(table)):
            raise InvalidAutomaton("closing")
        self.table = tuple([tuple(row) for row in table])
        self.closing = tuple(sorted(closing))
        self.tokens = len(self.table[0]) + 1
        self._needs = _needs_of(self.table, self.closing)

    @classmethod
    def read(cls, word):
        """The automaton of a word."""
        if not isinstance(word, str):
            raise InvalidAutomaton("word")
        table, closing = _parts_of(word)
        try:
            return cls(table, closing)
        except InvalidAutomaton:
            raise InvalidAutomaton("word") from None

    def after(self, state, token):
        """The next state, None if there is none."""
        if not self._is_state(state) or not is_number(token, 1, self.tokens - 1):
            return None
        return self.table[state][token - 1]

    def state_of(self, text):
        """The state to which a text leads from the state 0, None if it leads to none."""
        if not isinstance(text, (list, tuple)):
            return None
        state = 0
        for token in text:
            state = self.after(state, token)
        return state

    def accepts(self, text):
        """Whether it accepts a text."""
        return self.state_of(text) in self.closing

    def need(self, state):
        """The least number of tokens from a state to a closing one, None if none can be reached."""
        return self._needs[state] if self._is_state(state) else None

    def allowed(self, state, free):
        """The list of the tokens that are allowed in a state, with so many tokens still free."""
        ends = [0] if self.need(state) == 0 else []
        return ends + [step[0] for step in self._steps(state, free)]

    def texts(self, most):
        """All texts that it accepts with at most so many tokens, shorter ones first."""
        beginnings = [((), 0)]
        for length in range(most + 1):
            for text, state in beginnings:
                if state in self.closing:
                    yield text
            beginnings = self._longer(beginnings, most - length)

    def _is_state(self, state):
        return is_number(state, 0, len(self.table) - 1)

    def _steps(self, state, free):
        """The pairs (token, next state) from which a closing state can be reached in time."""
        steps = []
        for token in range(1, self.tokens):
            behind = self.after(state, token)
            need = self.need(behind)
            if need is not None and need <= free - 1:
                steps.append((token, behind))
        return steps

    def _longer(self, beginnings, free):
        longer = []
        for text, state in beginnings:
            for token, behind in self._steps(state, free):
                longer.append(((*text, token), behind))
        return longer

    def __eq__(self, other):
        return isinstance(other, Automaton) and self.table == other.table and self.closing == other.closing

    def __str__(self):
        return "/".join([_state_word(row, state in self.closing) for state, row in enumerate(self.table)])

    def __repr__(self):
        return f"Automaton({str(self)})"


def everything(tokens):
    """The automaton that accepts all texts without ends, for so many tokens."""
    return Automaton([[0] * (tokens - 1)], [0])


def _is_table(table):
    if not isinstance(table, (list, tuple)) or not 1 <= len(table) <= MOST_STATES:
        return False
    if not all([_is_row(row, len(table)) for row in table]):
        return False
    return len({len(row) for row in table}) == 1


def _is_row(row, states):
    if not isinstance(row, (list, tuple)) or not 1 <= len(row) <= MOST_COLUMNS:
        return False
    return all([item is None or is_number(item, 0, states - 1) for item in row])


def _is_closing(closing, states):
    if not isinstance(closing, (list, tuple)):
        return False
    if not all([is_number(state, 0, states - 1) for state in closing]):
        return False
    return len(set(closing)) == len(closing)


def _needs_of(table, closing):
    needs = [0 if state in closing else None for state in range(len(table))]
    for length in range(1, len(table)):
        nearer = [state for state, need in enumerate(needs) if need is not None]
        for state, row in enumerate(table):
            if needs[state] is None and any([behind in nearer for behind in row]):
                needs[state] = length
    return tuple(needs)


def _state_word(row, closes):
    marks = "".join(["-" if behind is None else str(behind) for behind in row])
    return f"{marks}+" if closes else marks


def _parts_of(word):
    """The table and the closing states that a string tells, which may be wrong ones."""
    table = []
    closing = []
    for state, part in enumerate(word.split("/")):
        if part.endswith("+"):
            closing.append(state)
        table.append([_next_state(mark) for mark in part.removesuffix("+")])
    return table, closing


def _next_state(mark):
    # A character that is no digit gives -1, which is no state either.
    return None if mark == "-" else DIGITS.find(mark)
