"""The rules of the language subset that can be read off the files alone."""

import ast
import unittest
from pathlib import Path

PACKAGE = Path(__file__).resolve().parent.parent / "needledrop"
LIBRARY = {"heapq", "math", "itertools", "collections", "__future__"}


class LanguageTest(unittest.TestCase):
    def setUp(self):
        self.texts = {path.name: path.read_text(encoding="utf-8") for path in sorted(PACKAGE.glob("*.py"))}

    def test_files(self):
        self.assertIn("__init__.py", self.texts)
        others = [path.name for path in PACKAGE.iterdir() if path.name not in self.texts]
        self.assertLessEqual(set(others), {"__pycache__"})

    def test_sizes(self):
        for name, text in self.texts.items():
            self.assertLess(len(text.split("\n")), 400, name)
            self.assertLessEqual(max(map(len, text.split("\n"))), 120, name)
            for node in ast.walk(ast.parse(text)):
                if isinstance(node, ast.FunctionDef):
                    self.assertLessEqual(node.end_lineno - node.lineno + 1, 40, (name, node.name))

    def test_characters(self):
        for name, text in self.texts.items():
            self.assertTrue(all(char == "\n" or " " <= char <= "~" for char in text), name)

    def test_imports(self):
        for name, text in self.texts.items():
            for node in ast.walk(ast.parse(text)):
                self.assertNotIsInstance(node, ast.Import, name)
                if isinstance(node, ast.ImportFrom):
                    self.assertTrue(node.module.startswith("needledrop.") or node.module in LIBRARY, name)
                    self.assertEqual([each.asname for each in node.names if each.asname or each.name == "*"], [])


if __name__ == "__main__":
    unittest.main()
