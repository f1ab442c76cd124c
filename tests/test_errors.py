"""Tests of asklines/errors.py (point 5)."""

import unittest

from asklines import errors
from asklines.errors import AskError

WITH_TEXT = [
    "NoTree", "NoName", "NoNode", "Taken", "NoLine", "NoMessage", "NoRequest", "NoLogs",
    "NoAskers", "NoNumber", "NoOrder", "NoText", "NoCommand", "NoNet",
]
WITH_VALUE = {"TooMany": "many", "Unsettled": "many", "Clash": "edge", "Blocked": "node"}


class ErrorClasses(unittest.TestCase):

    def test_ask_error_is_a_value_error(self):
        self.assertEqual(AskError.__bases__, (ValueError,))

    def test_each_class_stands_directly_under_ask_error(self):
        for name in [*WITH_TEXT, *WITH_VALUE]:
            with self.subTest(name=name):
                self.assertEqual(getattr(errors, name).__bases__, (AskError,))

    def test_each_class_is_defined_in_this_file(self):
        for name in ["AskError", *WITH_TEXT, *WITH_VALUE]:
            with self.subTest(name=name):
                self.assertEqual(getattr(errors, name).__module__, "asklines.errors")
                self.assertEqual(getattr(errors, name).__name__, name)

    def test_no_class_is_caught_as_another(self):
        for name in [*WITH_TEXT, *WITH_VALUE]:
            for other in [*WITH_TEXT, *WITH_VALUE]:
                same = issubclass(getattr(errors, name), getattr(errors, other))
                self.assertEqual(same, name == other)


class ErrorTexts(unittest.TestCase):

    def test_str_is_the_text(self):
        for name in ["AskError", *WITH_TEXT]:
            for text in ("why", "", "two\nrows", "it's {not} a 'tree'"):
                with self.subTest(name=name, text=text):
                    self.assertEqual(str(getattr(errors, name)(text)), text)

    def test_raised_and_caught_as_each_of_its_classes(self):
        for name in WITH_TEXT:
            for caught in (getattr(errors, name), AskError, ValueError):
                with self.assertRaises(caught) as held:
                    raise getattr(errors, name)("why")
                self.assertEqual(str(held.exception), "why")


class ErrorValues(unittest.TestCase):

    def test_the_value_is_kept_in_the_named_field(self):
        for name, field in WITH_VALUE.items():
            for value in (0, 1, 41, None, "a", "", ("a", "p"), ("a",), (), ["a"], {"a": 1}, b"a"):
                with self.subTest(name=name, value=value):
                    error = getattr(errors, name)(value)
                    self.assertIs(getattr(error, field), value)

    def test_raised_and_caught_as_each_of_its_classes(self):
        for name, field in WITH_VALUE.items():
            for caught in (getattr(errors, name), AskError, ValueError):
                with self.assertRaises(caught) as held:
                    raise getattr(errors, name)(("a", "p"))
                self.assertEqual(getattr(held.exception, field), ("a", "p"))

    def test_two_errors_keep_their_own_values(self):
        first, second = errors.TooMany(41), errors.TooMany(7)
        self.assertEqual((first.many, second.many), (41, 7))

    def test_the_message_can_be_shown(self):
        for name in WITH_VALUE:
            self.assertIsInstance(str(getattr(errors, name)(("a", "p"))), str)


if __name__ == "__main__":
    unittest.main()
