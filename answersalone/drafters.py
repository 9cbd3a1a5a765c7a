"""Drafters, which guess how a text goes on, and the drafts in a result."""

from answersalone.choosing import choose
from answersalone.walks import Walk
from answersalone.words import END, is_number


class Always:
    """Guesses the same tokens for each text."""

    def __init__(self, *tokens):
        self.tokens = tokens

    def __call__(self, text):
        return list(self.tokens)

    def __repr__(self):
        return f"Always({len(self.tokens)} tokens)"


class Echo:
    """Guesses what stood behind the last two tokens of a text where they stood last before."""

    def __init__(self, most=5):
        self.most = most

    def __call__(self, text):
        last = tuple(text[-2:])
        for start in range(len(text) - 3, -1, -1):
            if tuple(text[start:start + 2]) == last:
                return list(text[start + 2:start + 2 + self.most])
        return []


class Foresight:
    """Guesses what a net answers with the knob best and without an automaton."""

    def __init__(self, net, most=5):
        self.net = net
        self.most = most

    def __call__(self, text):
        walk = Walk(self.net, text)
        guessed = []
        while len(guessed) < self.most:
            token = choose(self.net.weights(walk.last))
            if token == END:
                return guessed
            guessed.append(token)
            walk.go_on(token)
        return guessed


def drafts_of(result, tokens, most):
    """The list of the drafts in any value, for so many tokens and at most so many drafts."""
    drafts = []
    if not isinstance(result, (list, tuple)):
        return drafts
    for item in result[:most]:
        if not is_number(item, 1, tokens - 1):
            return drafts
        drafts.append(item)
    return drafts
