"""The examples of the document, as they stand, one behind another, and those of the README."""

import doctest
import unittest
from pathlib import Path

EXAMPLES = """
>>> from hourneeds.clocks import Clock
>>> falling = Clock([3, 2, 1])
>>> [falling.widths(), falling.served(1), falling.serving(2), falling[0], list(falling)]
[[1, 2, 3], [1, 2], [0, 1, 2], 3, [3, 2, 1]]
>>> [Clock.even(3, 2) == Clock([2, 2, 2]), falling.turned(1).stays(), falling.mirrored() == falling]
[True, [2, 1, 3], True]
"""


README = Path(__file__).parent.parent / "README.md"


class Examples(unittest.TestCase):
    def check(self, text):
        examples = doctest.DocTestParser().get_doctest(text, {}, "examples", None, 0)
        self.assertTrue(examples.examples)
        report = []
        doctest.DocTestRunner(verbose=False).run(examples, out=report.append)
        self.assertEqual("".join(report), "")

    def test_examples_of_the_document(self):
        self.check(EXAMPLES)

    def test_examples_of_the_readme(self):
        self.check(README.read_text(encoding="utf-8"))


if __name__ == "__main__":
    unittest.main()
