"""The examples of README.md come out as they are printed."""

import doctest
import os
import unittest

README = os.path.join(os.path.dirname(os.path.dirname(os.path.abspath(__file__))), "README.md")


class ReadmeTest(unittest.TestCase):
    def test_examples(self):
        with open(README, encoding="utf-8") as file:
            text = file.read().replace("```", "")
        told = doctest.DocTestParser().get_doctest(text, {}, "README.md", README, 0)
        runner = doctest.DocTestRunner(verbose=False)
        self.assertEqual(runner.run(told), (0, len(told.examples)))
        self.assertGreater(len(told.examples), 5)


if __name__ == "__main__":
    unittest.main()
