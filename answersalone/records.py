"""The lines of a journal, each by itself: what they tell, and how they are written."""

from answersalone.requests import GREATEST_COPIES, read_request
from answersalone.words import is_name, number_word, read_number

ASK = "ask"
TOKEN = "token"
CANCEL = "cancel"


def read_record(line, tokens):
    """What a line tells, for the string tokens of a net, None for any value that has no form of a line.

    It is a tuple: ask and the request, token with the name, the run and the token, or cancel and the name.
    """
    if not isinstance(line, str):
        return None
    words = line.split(" ")
    if words[0] == ASK:
        request = read_request(line, tokens)
        return None if request is None else (ASK, request)
    if words[0] == TOKEN and len(words) == 4:
        return _token_record(words, tokens)
    if words[0] == CANCEL and len(words) == 2 and is_name(words[1]):
        return CANCEL, words[1]
    return None


def _token_record(words, tokens):
    _, name, number, character = words
    run = read_number(number, 0, GREATEST_COPIES - 1)
    if not is_name(name) or run is None or len(character) != 1 or character not in tokens:
        return None
    return TOKEN, name, run, tokens.index(character)


def token_line(name, run, character):
    """The line that tells that a run chose a token."""
    return f"{TOKEN} {name} {number_word(run)} {character}"


def cancel_line(name):
    """The line that tells that a request was cancelled."""
    return f"{CANCEL} {name}"
