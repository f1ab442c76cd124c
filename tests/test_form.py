"""Tests of the form of the package: those rules of LANGUAGE.md that a short check can see."""

import ast
import builtins
import os
import unittest

TOP = os.path.dirname(os.path.dirname(os.path.abspath(__file__)))
PACKAGE = os.path.join(TOP, "asklines")
LIBRARY = {"heapq", "math", "itertools", "collections"}
BUILTINS = set(
    "len range enumerate zip min max sum abs sorted reversed int str bool list tuple dict set isinstance ord repr "
    "any all divmod pow getattr hasattr setattr iter next map type super property staticmethod classmethod "
    "Exception ValueError TypeError KeyError IndexError LookupError ZeroDivisionError ArithmeticError OverflowError "
    "RuntimeError NotImplementedError AttributeError StopIteration NotImplemented".split()
)
METHODS_OF_CLASSES = {"__init__", "__eq__", "__repr__", "__str__", "__len__", "__iter__", "__call__"}
BARRED = (ast.AsyncFunctionDef, ast.Await, ast.Import)


def sources():
    """The name and the text of each file of the package."""
    found = []
    for name in sorted(os.listdir(PACKAGE)):
        if name != "__pycache__":
            with open(os.path.join(PACKAGE, name), encoding="utf-8", newline="") as file:
                found.append((name, file.read()))
    return found


class Files(unittest.TestCase):

    def test_names_of_files(self):
        names = [name for name, _ in sources()]
        self.assertIn("__init__.py", names)
        for name in names:
            self.assertRegex(name, r"\A[a-z_][a-z0-9_]*\.py\Z")
            self.assertFalse(name.startswith("test"))

    def test_characters_and_sizes(self):
        for name, text in sources():
            self.assertTrue(all(" " <= sign <= "~" or sign == "\n" for sign in text), name)
            rows = text.split("\n")
            self.assertLessEqual(len(rows), 399, name)
            self.assertLessEqual(max(len(row) for row in rows), 120, name)


class Code(unittest.TestCase):

    def nodes(self):
        for name, text in sources():
            for node in ast.walk(ast.parse(text)):
                yield name, node

    def test_module_level(self):
        allowed = (ast.ImportFrom, ast.FunctionDef, ast.ClassDef, ast.Assign)
        for name, text in sources():
            body = ast.parse(text).body
            self.assertIsNotNone(ast.get_docstring(ast.parse(text)), name)
            self.assertTrue(all(isinstance(node, allowed) for node in body[1:]), name)

    def test_imports(self):
        for name, node in self.nodes():
            if isinstance(node, ast.ImportFrom):
                self.assertEqual(node.level, 0, name)
                self.assertTrue(node.module.startswith("asklines.") or node.module in LIBRARY, node.module)
                self.assertTrue(all(alias.name != "*" and alias.asname is None for alias in node.names), name)

    def test_functions_are_short_and_told(self):
        for name, node in self.nodes():
            if isinstance(node, ast.FunctionDef):
                self.assertLessEqual(node.end_lineno - node.lineno + 1, 40, node.name)
                if node.name.startswith("__"):
                    self.assertIn(node.name, METHODS_OF_CLASSES, name)
                else:
                    self.assertIsNotNone(ast.get_docstring(node), node.name)

    def test_builtins(self):
        barred = set(dir(builtins)) - BUILTINS
        for name, node in self.nodes():
            if isinstance(node, ast.Name):
                self.assertNotIn(node.id, barred, name)
                if not isinstance(node.ctx, ast.Load):
                    self.assertNotIn(node.id, dir(builtins), name)

    def test_statements_and_values(self):
        for name, node in self.nodes():
            self.assertNotIsInstance(node, BARRED, name)
            if isinstance(node, (ast.BinOp, ast.AugAssign)):
                self.assertNotIsInstance(node.op, ast.Div, name)
            if isinstance(node, ast.Constant):
                self.assertNotIsInstance(node.value, (float, complex), name)
                if isinstance(node.value, str):
                    self.assertNotIn("%", node.value, name)


if __name__ == "__main__":
    unittest.main()
