"""Orders: the lines of a console, and what stands in them."""

from answersalone.drafters import Always, Echo, Foresight
from answersalone.requests import read_request
from answersalone.words import END, is_name, read_number

ASK = "ask"
GREATEST_NUMBER = 9999
# The first words of lines, and the kinds of what stands behind them.
FORMS = (
    ("open", "NUMBER", "NUMBER", "NUMBER", "NUMBER", "DRAFTER"),
    ("cancel", "NAME"),
    ("round",),
    ("round", "NUMBER"),
    ("crash", "NUMBER", "NUMBER"),
    ("told", "NAME", "NUMBER"),
    ("standing",),
    ("counts",),
    ("audit",),
)
DRAFTERS = ("none", "echo", "foresight")
ALWAYS = "always:"


def read_order(line, net):
    """The tuple of the first word of a line and of what it tells behind it, None for a line of no form.

    Numbers are told as numbers, a request as such; the others as they are written.
    """
    words = line.split(" ")
    if words[0] == ASK:
        request = read_request(line, net.tokens)
        return None if request is None else (ASK, request)
    for first, *kinds in FORMS:
        if words[0] == first and len(words) == len(kinds) + 1:
            parts = [_part(kind, word, net) for kind, word in zip(kinds, words[1:])]
            return None if None in parts else (first, *parts)
    return None


def drafter_of(word, net):
    """The drafter of a word, None for the word none."""
    if word == "none":
        return None
    if word == "echo":
        return Echo()
    if word == "foresight":
        return Foresight(net)
    tokens = net.numbers(word.removeprefix(ALWAYS))
    return Always(*tokens)


def _part(kind, word, net):
    if kind == "NUMBER":
        return read_number(word, 0, GREATEST_NUMBER)
    right = is_name(word) if kind == "NAME" else _is_drafter(word, net)
    return word if right else None


def _is_drafter(word, net):
    if not word.startswith(ALWAYS):
        return word in DRAFTERS
    tokens = net.numbers(word.removeprefix(ALWAYS))
    return tokens is not None and END not in tokens
