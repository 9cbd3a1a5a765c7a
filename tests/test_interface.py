"""The names of the interface, where they are defined, and their parameters."""

import importlib
import inspect
import unittest

FUNCTIONS = {
    "words": {
        "is_number": "(value, least, most)",
        "is_name": "(value)",
        "is_tokens": "(value)",
        "number_word": "(number)",
        "read_number": "(word, least, most)",
    },
    "choosing": {
        "draw_number": "(seed, place)",
        "choose": "(weights, *, allowed=None, knob='best', seed=0, place=0)",
    },
    "automata": {"everything": "(tokens)"},
    "requests": {"read_request": "(line, tokens)"},
    "plain": {
        "worked": "(net, text)",
        "next_token": "(net, request, tokens, run=0)",
        "plain_answer": "(net, request, run=0)",
        "plain_tokens": "(net, request, run=0)",
    },
}
METHODS = {
    ("automata", "Automaton"): {
        "__init__": "(self, table, closing=())",
        "after": "(self, state, token)",
        "state_of": "(self, text)",
        "accepts": "(self, text)",
        "need": "(self, state)",
        "allowed": "(self, state, free)",
        "texts": "(self, most)",
        "__str__": "(self)",
        "__repr__": "(self)",
        "__eq__": "(self, other)",
    },
    ("requests", "Request"): {
        "__init__": "(self, name, text, most, *, knob='best', seed=0, copies=1, automaton=None)",
        "fits": "(self, tokens)",
        "need": "(self, page)",
        "entry": "(self, tokens)",
        "changed": "(self, **more)",
        "__eq__": "(self, other)",
        "__len__": "(self)",
        "__repr__": "(self)",
    },
    ("answers", "Answer"): {
        "__init__": "(self, tokens=(), why='live')",
        "begins": "(self, other)",
        "__eq__": "(self, other)",
        "__len__": "(self)",
        "__bool__": "(self)",
        "__repr__": "(self)",
    },
}
PROPERTIES = [("requests", "Request", "possible"), ("answers", "Answer", "complete")]
CLASS_METHODS = [("automata", "Automaton", "read", "(word)")]
GENERATORS = [("automata", "Automaton", "texts"), ("plain", None, "plain_tokens")]


def module(name):
    return importlib.import_module(f"answersalone.{name}")


class InterfaceTest(unittest.TestCase):
    def test_functions(self):
        for name, functions in FUNCTIONS.items():
            for word, parameters in functions.items():
                function = getattr(module(name), word)
                self.assertEqual(function.__module__, f"answersalone.{name}")
                self.assertEqual(str(inspect.signature(function)), parameters, word)

    def test_methods_stand_in_their_class(self):
        for (name, word), methods in METHODS.items():
            made = getattr(module(name), word)
            self.assertEqual(made.__module__, f"answersalone.{name}")
            for method, parameters in methods.items():
                self.assertIn(method, vars(made))
                self.assertEqual(str(inspect.signature(vars(made)[method])), parameters, method)

    def test_properties(self):
        for name, word, what in PROPERTIES:
            self.assertIsInstance(vars(getattr(module(name), word))[what], property)

    def test_class_methods(self):
        for name, word, what, parameters in CLASS_METHODS:
            made = getattr(module(name), word)
            self.assertIsInstance(vars(made)[what], classmethod)
            self.assertEqual(str(inspect.signature(getattr(made, what))), parameters)

    def test_generators(self):
        for name, word, what in GENERATORS:
            owner = module(name) if word is None else getattr(module(name), word)
            self.assertTrue(inspect.isgeneratorfunction(getattr(owner, what)))


if __name__ == "__main__":
    unittest.main()
