"""What several tests need: values of all kinds, and a stand-in for nets."""

from answersalone.answers import Answer
from answersalone.automata import Automaton
from answersalone.requests import Request


def odd_values():
    """Values of all kinds that are no numbers and no strings."""
    return [
        None, True, False, [], (), [1], (0, 1), [[0]], ["a"], [None], (((1,),),),
        Answer(), Automaton([[0]], [0]), Request("a", [1], 1), [Request("a", [1], 1)],
    ]


class RecordingNet:
    """A net whose last row is the whole text; the weights are told by a function of the text."""

    def __init__(self, tokens, weigh):
        self.tokens = tokens
        self.weigh = weigh
        self.places = []

    def place(self, kept, token):
        self.places.append((list(kept), token))
        text = tuple(row[0] for row in kept) + (token,)
        return (token, len(kept)), text

    def weights(self, row):
        return self.weigh(row)


def mixed_weights(text):
    """Weights for three tokens that hang on all tokens of a text and on their order."""
    total = 7
    for token in text:
        total = (total * 31 + token * 17 + 5) % 1009
    return [total % 4, total // 4 % 6, total // 24 % 6]
