"""Requests and their ask lines."""

from answersalone.automata import Automaton
from answersalone.errors import InvalidAutomaton, InvalidRequest
from answersalone.words import is_name, is_number, number_word, read_number

KNOBS = ("best", "draw")
LONGEST_TEXT = 16
GREATEST_TOKEN = 5
GREATEST_MOST = 16
GREATEST_SEED = 9999
GREATEST_COPIES = 4
ASK_WORDS = 8
NO_AUTOMATON = "*"


class Request:
    """A request: a text, and what its answers may be."""

    def __init__(self, name, text, most, *, knob="best", seed=0, copies=1, automaton=None):
        checks = [
            ("name", is_name(name)),
            ("text", _is_text(text)),
            ("most", is_number(most, 1, GREATEST_MOST)),
            ("knob", isinstance(knob, str) and knob in KNOBS),
            ("seed", is_number(seed, 0, GREATEST_SEED)),
            ("copies", is_number(copies, 1, GREATEST_COPIES)),
            ("automaton", automaton is None or isinstance(automaton, Automaton)),
        ]
        for field, right in checks:
            if not right:
                raise InvalidRequest(field)
        self.name = name
        self.text = tuple(text)
        self.most = most
        self.knob = knob
        self.seed = seed
        self.copies = copies
        self.automaton = automaton

    @property
    def possible(self):
        """Whether its automaton, if there is one, can be led to its end by an answer."""
        if self.automaton is None:
            return True
        least = self.automaton.need(0)
        return least is not None and least <= self.most

    def fits(self, tokens):
        """Whether it fits so many tokens."""
        return misfit(self, tokens) is None

    def need(self, page):
        """The number of pages and tails that its runs need at most, for a page length."""
        # The place of the last token of an answer is never worked.
        places = len(self.text) + self.most - 1
        whole = (places + page - 1) // page
        if self.copies == 1 or self.most == 1:
            return whole
        shared = len(self.text) // page
        return shared + self.copies * (whole - shared)

    def entry(self, tokens):
        """Its ask line, for the string tokens of a net that it fits."""
        text = "".join([tokens[token] for token in self.text])
        numbers = [number_word(number) for number in (self.most, self.seed, self.copies)]
        word = NO_AUTOMATON if self.automaton is None else str(self.automaton)
        return f"ask {self.name} {text} {numbers[0]} {self.knob} {numbers[1]} {numbers[2]} {word}"

    def changed(self, **more):
        """The request with some of its attributes replaced."""
        fields = {
            "name": self.name,
            "text": self.text,
            "most": self.most,
            "knob": self.knob,
            "seed": self.seed,
            "copies": self.copies,
            "automaton": self.automaton,
        }
        fields.update(more)
        return Request(**fields)

    def __eq__(self, other):
        return (
            isinstance(other, Request)
            and self.name == other.name
            and self.text == other.text
            and self.most == other.most
            and self.knob == other.knob
            and self.seed == other.seed
            and self.copies == other.copies
            and self.automaton == other.automaton
        )

    def __len__(self):
        return len(self.text)

    def __repr__(self):
        return f"Request({self.name}, {len(self.text)} tokens, most {self.most})"


def misfit(request, tokens):
    """The first of the words text and automaton that does not fit so many tokens, or None."""
    if max(request.text) >= tokens:
        return "text"
    if request.automaton is not None and request.automaton.tokens != tokens:
        return "automaton"
    return None


def read_request(line, tokens):
    """The request of an ask line, None for any value that is none for these tokens."""
    if not isinstance(line, str):
        return None
    words = line.split(" ")
    if len(words) != ASK_WORDS or words[0] != "ask":
        return None
    try:
        request = _asked(words, tokens)
    except (InvalidRequest, InvalidAutomaton):
        return None
    if not request.fits(len(tokens)) or not request.possible:
        return None
    return request


def _asked(words, tokens):
    _, name, text, most, knob, seed, copies, word = words
    return Request(
        name,
        # The end gives 0 and a character that is no token gives -1: a text has neither.
        [tokens.find(character) for character in text],
        read_number(most, 1, GREATEST_MOST),
        knob=knob,
        seed=read_number(seed, 0, GREATEST_SEED),
        copies=read_number(copies, 1, GREATEST_COPIES),
        automaton=None if word == NO_AUTOMATON else Automaton.read(word),
    )


def _is_text(value):
    if not isinstance(value, (list, tuple)) or not 1 <= len(value) <= LONGEST_TEXT:
        return False
    return all([is_number(token, 1, GREATEST_TOKEN) for token in value])
