"""The errors: their bases and their attributes."""

import itertools
import unittest

from answersalone import errors

BASES = {"InvalidError": ValueError, "UnknownError": LookupError, "StateError": RuntimeError}
CLASSES = {
    "InvalidError": {
        "InvalidNet": ["part"],
        "InvalidText": ["line"],
        "InvalidAutomaton": ["part"],
        "InvalidRequest": ["field"],
        "InvalidSetting": ["field"],
        "InvalidLine": ["line", "why"],
        "InvalidThing": ["machine", "at"],
        "InvalidSplit": ["kind", "layer", "number"],
        "InvalidOrder": [],
        "InvalidWeights": [],
        "TooMany": ["number"],
        "TooSmall": ["name"],
        "Twice": ["name"],
    },
    "UnknownError": {
        "UnknownName": ["name"],
        "UnknownRun": ["run"],
        "UnknownHolder": ["holder"],
        "UnknownChunk": ["at"],
    },
    "StateError": {
        "Crashed": ["stop"],
        "Dead": [],
        "Finished": ["at"],
        "Unfinished": ["at"],
        "AlreadyOn": ["holder"],
    },
}
VALUES = ["word", 0, -3, None, True, (1, "a"), "", 10 ** 30]


def all_classes():
    for base, classes in CLASSES.items():
        for name, attributes in classes.items():
            yield getattr(errors, base), getattr(errors, name), attributes


def told(error, attributes):
    return [getattr(error, attribute) for attribute in attributes]


class ErrorsTest(unittest.TestCase):
    def test_bases(self):
        for name, base in BASES.items():
            self.assertEqual(getattr(errors, name).__bases__, (base,))

    def test_each_class_has_one_base(self):
        for base, made, _ in all_classes():
            self.assertEqual(made.__bases__, (base,), made)
            self.assertEqual(made.__module__, "answersalone.errors")

    def test_no_class_is_another_one(self):
        listed = [made for _, made, _ in all_classes()]
        self.assertEqual(len(set(listed)), 22)
        for one, other in itertools.permutations(listed, 2):
            self.assertFalse(issubclass(one, other), (one, other))

    def test_caught_by_the_base_alone(self):
        for base, made, attributes in all_classes():
            error = made(*VALUES[:len(attributes)])
            for other in BASES:
                self.assertEqual(isinstance(error, getattr(errors, other)), other == base.__name__)
            with self.assertRaises(BASES[base.__name__]):
                raise error

    def test_attributes_by_position_by_name_and_mixed(self):
        for _, made, attributes in all_classes():
            for values in itertools.permutations(VALUES, len(attributes)):
                for many in range(len(attributes) + 1):
                    named = dict(zip(attributes[many:], values[many:]))
                    backwards = dict(reversed(list(named.items())))
                    self.assertEqual(told(made(*values[:many], **named), attributes), list(values))
                    self.assertEqual(told(made(*values[:many], **backwards), attributes), list(values))

    def test_attributes_are_kept_as_they_are(self):
        held = [1, 2]
        self.assertIs(errors.UnknownRun(held).run, held)
        self.assertIs(errors.UnknownRun(True).run, True)

    def test_an_error_stays_when_another_is_made(self):
        for _, made, attributes in all_classes():
            first = made(*VALUES[:len(attributes)])
            made(*VALUES[-len(attributes):] if attributes else [])
            self.assertEqual(told(first, attributes), VALUES[:len(attributes)])

    def test_too_many_or_too_few_arguments(self):
        for _, made, attributes in all_classes():
            if attributes:
                with self.assertRaises(TypeError):
                    made(*VALUES[:len(attributes) + 1])
                with self.assertRaises(TypeError):
                    made(*VALUES[:len(attributes) - 1])


if __name__ == "__main__":
    unittest.main()
