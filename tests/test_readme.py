"""Tests that the examples in README.md hold."""

import doctest
import os
import unittest

README = os.path.join(os.path.dirname(os.path.dirname(os.path.abspath(__file__))), "README.md")


class Examples(unittest.TestCase):

    def test_examples(self):
        with open(README, encoding="utf-8") as file:
            # A fence right behind an example would count as its result.
            text = file.read().replace("```", "")
        examples = doctest.DocTestParser().get_doctest(text, {}, "README.md", README, 0)
        self.assertTrue(examples.examples)
        self.assertEqual(doctest.DocTestRunner().run(examples).failed, 0)


if __name__ == "__main__":
    unittest.main()
