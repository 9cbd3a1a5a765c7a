"""The examples of the document come out as they are printed; examples.txt has them as they stand there."""

import os
import unittest

PATH = os.path.join(os.path.dirname(os.path.abspath(__file__)), "examples.txt")


def examples():
    """For each example the list of its pairs (statement, what is printed)."""
    with open(PATH, encoding="utf-8") as file:
        blocks = file.read().split("```")[1::2]
    found = []
    for block in blocks:
        pairs = []
        for line in block.strip().split("\n"):
            if line.startswith(">>> "):
                pairs.append((line[4:], None))
            else:
                pairs[-1] = (pairs[-1][0], line)
        found.append(pairs)
    return found


def outcome(statement, names):
    """What a statement prints."""
    try:
        told = eval(statement, names)
    except SyntaxError:
        exec(statement, names)
        return None
    except Exception as error:
        fields = ", ".join(f"{name}={value!r}" for name, value in vars(error).items())
        return f"raises {type(error).__name__}({fields})"
    return None if told is None else repr(told)


class ExamplesTest(unittest.TestCase):
    def test_examples(self):
        self.assertEqual(len(examples()), 12)
        for pairs in examples():
            names = {}
            for statement, printed in pairs:
                self.assertEqual(outcome(statement, names), printed, statement)


if __name__ == "__main__":
    unittest.main()
