"""The names of the interface, where they are defined, and their parameters."""

import importlib
import inspect
import unittest

FUNCTIONS = {
    "words": {
        "is_number": "(value, least, most)",
        "is_name": "(value)",
        "is_tokens": "(value)",
        "number_word": "(number)",
        "read_number": "(word, least, most)",
    },
    "tables": {
        "times": "(table, row)",
        "added": "(one, other)",
        "cut": "(row, cap)",
        "dot": "(one, other)",
        "raised": "(row)",
    },
    "choosing": {
        "draw_number": "(seed, place)",
        "choose": "(weights, *, allowed=None, knob='best', seed=0, place=0)",
    },
    "automata": {"everything": "(tokens)"},
    "requests": {"read_request": "(line, tokens)"},
    "plain": {
        "worked": "(net, text)",
        "next_token": "(net, request, tokens, run=0)",
        "plain_answer": "(net, request, run=0)",
        "plain_tokens": "(net, request, run=0)",
    },
    "drafters": {"drafts_of": "(result, tokens, most)"},
    "audit": {"audit": "(net, text)", "plain_lines": "(net, *requests)"},
    "splits": {
        "is_thing": "(shape, value)",
        "wrong_thing": "(shape, machines)",
        "summed": "(net, machines, token)",
        "parting_net": "(shape, thing)",
    },
    "chances": {
        "shares_of": "(weights)",
        "kept_share": "(p, q)",
        "rest_shares": "(p, q)",
        "guessed_shares": "(p, q)",
        "row_chance": "(net, text, row)",
        "guessed_chance": "(net, text, row, weigher)",
        "kept_chances": "(net, text, places, weigher)",
        "all_rows": "(tokens, length)",
    },
    "console": {"play": "(net, text)"},
}
METHODS = {
    ("shapes", "Shape"): {
        "__init__": "(self, tokens, width, layers, heads)",
        "things": "(self)",
        "__eq__": "(self, other)",
        "__repr__": "(self)",
    },
    ("nets", "Net"): {
        "__init__": "(self, tokens, cap, token_rows, place_rows, layers, out_rows, base)",
        "embedded": "(self, token, place)",
        "place": "(self, kept, token)",
        "weights": "(self, row)",
        "number_of": "(self, character)",
        "numbers": "(self, string)",
        "characters": "(self, text)",
        "written": "(self)",
        "__eq__": "(self, other)",
        "__repr__": "(self)",
    },
    ("automata", "Automaton"): {
        "__init__": "(self, table, closing=())",
        "after": "(self, state, token)",
        "state_of": "(self, text)",
        "accepts": "(self, text)",
        "need": "(self, state)",
        "allowed": "(self, state, free)",
        "texts": "(self, most)",
        "__str__": "(self)",
        "__repr__": "(self)",
        "__eq__": "(self, other)",
    },
    ("requests", "Request"): {
        "__init__": "(self, name, text, most, *, knob='best', seed=0, copies=1, automaton=None)",
        "fits": "(self, tokens)",
        "need": "(self, page)",
        "entry": "(self, tokens)",
        "changed": "(self, **more)",
        "__eq__": "(self, other)",
        "__len__": "(self)",
        "__repr__": "(self)",
    },
    ("answers", "Answer"): {
        "__init__": "(self, tokens=(), why='live')",
        "begins": "(self, other)",
        "__eq__": "(self, other)",
        "__len__": "(self)",
        "__bool__": "(self)",
        "__repr__": "(self)",
    },
    ("lots", "Lot"): {
        "__init__": "(self, net, *chunks)",
        "step": "(self, at)",
        "layers_done": "(self, at)",
        "rows": "(self, at)",
        "kept": "(self, at)",
        "finish": "(self)",
        "twin": "(self)",
        "__len__": "(self)",
        "__repr__": "(self)",
    },
    ("audit", "Verdict"): {
        "__init__": "(self, line=None, why='')",
        "__bool__": "(self)",
        "__eq__": "(self, other)",
        "__repr__": "(self)",
    },
    ("splits", "Split"): {
        "__init__": "(self, shape, *machines)",
        "machine_of": "(self, thing)",
        "__eq__": "(self, other)",
        "__len__": "(self)",
        "__repr__": "(self)",
    },
    ("crews", "Crew"): {
        "__init__": "(self, net, layout, *, order=None)",
        "place": "(self, kept, token)",
        "weights": "(self, row)",
        "embedded": "(self, token, place)",
        "number_of": "(self, character)",
        "numbers": "(self, string)",
        "characters": "(self, text)",
        "portion": "(self, row, machine)",
        "joined": "(self, portions)",
        "__repr__": "(self)",
    },
    ("shares", "Share"): {
        "__init__": "(self, top, bottom=1)",
        "__add__": "(self, other)",
        "__sub__": "(self, other)",
        "__mul__": "(self, other)",
        "__neg__": "(self)",
        "below": "(self, other)",
        "over": "(self, other)",
        "__eq__": "(self, other)",
        "__bool__": "(self)",
        "__str__": "(self)",
        "__repr__": "(self)",
    },
    ("console", "Console"): {
        "__init__": "(self, net, disk=None)",
        "say": "(self, line)",
        "__call__": "(self, line)",
        "log": "(self)",
        "written": "(self)",
        "engine": "(self)",
        "__len__": "(self)",
        "__bool__": "(self)",
        "__repr__": "(self)",
    },
    ("drafters", "Always"): {
        "__init__": "(self, *tokens)",
        "__call__": "(self, text)",
        "__repr__": "(self)",
    },
    ("drafters", "Echo"): {
        "__init__": "(self, most=5)",
        "__call__": "(self, text)",
    },
    ("drafters", "Foresight"): {
        "__init__": "(self, net, most=5)",
        "__call__": "(self, text)",
    },
    ("cache", "Cache"): {
        "__init__": "(self, *, page=2, room=12)",
        "begin": "(self, holder, text)",
        "share": "(self, holder, *others)",
        "release": "(self, holder)",
        "room_for": "(self, holder)",
        "put": "(self, holder, token, row)",
        "next_round": "(self)",
        "places": "(self, holder)",
        "beginning": "(self, holder)",
        "rows": "(self, holder)",
        "holders": "(self)",
        "pages": "(self)",
        "tails": "(self)",
        "suspensions": "(self)",
        "twin": "(self)",
        "__contains__": "(self, holder)",
        "__repr__": "(self)",
    },
    ("journal", "Journal"): {
        "__init__": "(self, tokens)",
        "enter": "(self, line)",
        "lines": "(self)",
        "written": "(self)",
        "names": "(self)",
        "request": "(self, name)",
        "answer": "(self, name, run=0)",
        "live": "(self)",
        "__iter__": "(self)",
        "__contains__": "(self, name)",
        "__len__": "(self)",
        "__bool__": "(self)",
        "__repr__": "(self)",
    },
    ("disk", "Disk"): {
        "__init__": "(self, content='')",
        "write": "(self, line)",
        "sync": "(self)",
        "fall": "(self, keep=0, torn=0)",
        "trim": "(self)",
        "lines": "(self)",
        "twin": "(self)",
        "__len__": "(self)",
        "__bool__": "(self)",
        "__repr__": "(self)",
    },
    ("engine", "Engine"): {
        "__init__": "(self, net, disk, *, page=2, room=12, budget=4, drafter=None, guess=0)",
        "submit": "(self, request, *, stop=None)",
        "cancel": "(self, name, *, stop=None)",
        "advance": "(self, *, stop=None)",
        "story": "(self, most=400)",
        "finish": "(self, most=400)",
        "delivered": "(self, name, run=0)",
        "status": "(self, name, run=0)",
        "held": "(self, name, run=0)",
        "names": "(self)",
        "live": "(self)",
        "pages": "(self)",
        "tails": "(self)",
        "__contains__": "(self, name)",
        "__len__": "(self)",
        "__bool__": "(self)",
        "__repr__": "(self)",
    },
}
PROPERTIES = {
    ("requests", "Request"): ["possible"],
    ("answers", "Answer"): ["complete"],
    ("lots", "Lot"): ["done"],
    ("cache", "Cache"): ["rounds", "standing", "peak", "reused"],
    ("disk", "Disk"): ["content", "synced"],
    ("console", "Console"): ["busy"],
    ("engine", "Engine"): ["rounds", "worked", "reused", "suspended", "peak", "standing", "dead"],
}
CLASS_METHODS = [("automata", "Automaton", "read", "(word)")]
STATIC_METHODS = [
    ("nets", "Net", "read", "(text)"),
    ("journal", "Journal", "read", "(tokens, text)"),
    ("engine", "Engine", "alone", "(net, request, *, budget=4)"),
]
GENERATORS = [
    ("automata", "Automaton", "texts"),
    ("plain", None, "plain_tokens"),
    ("engine", "Engine", "story"),
    ("chances", None, "all_rows"),
]


def module(name):
    return importlib.import_module(f"answersalone.{name}")


class InterfaceTest(unittest.TestCase):
    def test_functions(self):
        for name, functions in FUNCTIONS.items():
            for word, parameters in functions.items():
                function = getattr(module(name), word)
                self.assertEqual(function.__module__, f"answersalone.{name}")
                self.assertEqual(str(inspect.signature(function)), parameters, word)

    def test_methods_stand_in_their_class(self):
        for (name, word), methods in METHODS.items():
            made = getattr(module(name), word)
            self.assertEqual(made.__module__, f"answersalone.{name}")
            for method, parameters in methods.items():
                self.assertIn(method, vars(made))
                self.assertEqual(str(inspect.signature(vars(made)[method])), parameters, method)

    def test_properties(self):
        for (name, word), properties in PROPERTIES.items():
            for what in properties:
                self.assertIsInstance(vars(getattr(module(name), word))[what], property)

    def test_class_methods(self):
        for name, word, what, parameters in CLASS_METHODS:
            made = getattr(module(name), word)
            self.assertIsInstance(vars(made)[what], classmethod)
            self.assertEqual(str(inspect.signature(getattr(made, what))), parameters)

    def test_static_methods(self):
        for name, word, what, parameters in STATIC_METHODS:
            made = getattr(module(name), word)
            self.assertIsInstance(vars(made)[what], staticmethod)
            self.assertEqual(str(inspect.signature(getattr(made, what))), parameters)

    def test_generators(self):
        for name, word, what in GENERATORS:
            owner = module(name) if word is None else getattr(module(name), word)
            self.assertTrue(inspect.isgeneratorfunction(getattr(owner, what)))


if __name__ == "__main__":
    unittest.main()
