"""Nets, requests and journals that several tests use: the example of [31], and made-up ones."""

from answersalone.automata import Automaton
from answersalone.nets import Net
from answersalone.requests import Request

EXAMPLE = (
    "net .ab 4\ntoken -1 -1\ntoken 0 -1\ntoken 0 0\nplace 0 0\nplace 0 1\nlayer\nhead\nquery 0 0\nquery -1 1\n"
    "key 0 0\nkey 0 0\nvalue 0 0\nvalue 0 1\nup 1 1\nup 0 0\ndown 0 0\ndown 0 -1\nout 0 0\nout 1 0\nout -1 1\n"
    "base 0 1 1\nend\n"
)
ROWS = 9


def example_net():
    return Net.read(EXAMPLE)


def example_parts():
    """The arguments of the net of [31], as lists."""
    return {
        "tokens": ".ab",
        "cap": 4,
        "token_rows": [[-1, -1], [0, -1], [0, 0]],
        "place_rows": [[0, 0], [0, 1]],
        "layers": [[[[[[0, 0], [-1, 1]], [[0, 0], [0, 0]], [[0, 0], [0, 1]]]], [[1, 1], [0, 0]], [[0, 0], [0, -1]]]],
        "out_rows": [[0, 0], [1, 0], [-1, 1]],
        "base": [0, 1, 1],
    }


def some_row(draw, width, greatest=ROWS):
    return [draw.randint(-greatest, greatest) for _ in range(width)]


def some_table(draw, width, greatest):
    return [some_row(draw, width, greatest) for _ in range(width)]


def some_parts(draw, *, tokens=None, width=None, layers=None, heads=None, greatest=ROWS):
    """The arguments of a made-up net, as lists."""
    tokens = draw.randint(2, 6) if tokens is None else tokens
    width = draw.randint(1, 4) if width is None else width
    layers = draw.randint(1, 3) if layers is None else layers
    heads = draw.randint(1, 2) if heads is None else heads
    return {
        "tokens": "".join(draw.sample(".abcdefg!~#", tokens)),
        "cap": draw.choice([1, 2, 4, 9, 30, 99]),
        "token_rows": [some_row(draw, width) for _ in range(tokens)],
        "place_rows": [some_row(draw, width) for _ in range(draw.randint(1, 6))],
        "layers": [
            [
                [[some_table(draw, width, greatest) for _ in range(3)] for _ in range(heads)],
                some_table(draw, width, greatest),
                some_table(draw, width, greatest),
            ]
            for _ in range(layers)
        ],
        "out_rows": [some_row(draw, width) for _ in range(tokens)],
        "base": some_row(draw, tokens),
    }


def some_net(draw, **more):
    return Net(**some_parts(draw, **more))


def some_automaton(draw, tokens):
    states = draw.randint(1, 4)
    table = [[draw.choice([None] + list(range(states)) * 2) for _ in range(tokens - 1)] for _ in range(states)]
    return Automaton(table, draw.sample(range(states), draw.randint(1, states)))


def some_request(draw, name, tokens, **more):
    """A made-up request that fits, is possible, and has not very long answers."""
    while True:
        fields = {
            "text": [draw.randint(1, tokens - 1) for _ in range(draw.randint(1, 5))],
            "most": draw.randint(1, 7),
            "knob": draw.choice(["best", "draw", "draw"]),
            "seed": draw.randint(0, 9999),
            "copies": draw.choice([1, 1, 2, 3, 4]),
            "automaton": some_automaton(draw, tokens) if draw.random() < 0.4 else None,
        }
        fields.update(more)
        request = Request(name, **fields)
        if request.possible:
            return request
