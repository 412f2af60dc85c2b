"""The rules of the language subset that can be read off the files alone."""

import ast
import builtins
import unittest
from pathlib import Path

PACKAGE = Path(__file__).resolve().parent.parent / "needledrop"
LIBRARY = {"heapq", "math", "itertools", "collections", "__future__"}
CHANGING = {"append", "clear", "extend", "insert", "pop", "remove", "reverse", "setdefault", "sort", "update"}


def shared_names(function):
    """A dict from each name of a function to all names that may stand for the same list."""
    groups = {node.id: {node.id} for node in ast.walk(function) if isinstance(node, ast.Name)}
    for node in ast.walk(function):
        if isinstance(node, ast.Assign) and isinstance(node.value, ast.Name):
            for target in node.targets:
                if isinstance(target, ast.Name):
                    joint = groups[target.id] | groups[node.value.id]
                    groups.update({name: joint for name in joint})
    return groups


def walked_names(walked):
    """The names of what a loop goes over as it stands, not over a copy."""
    if isinstance(walked, ast.Name):
        return [walked.id]
    if isinstance(walked, ast.Call) and isinstance(walked.func, ast.Attribute):
        return walked_names(walked.func.value) if walked.func.attr in ("items", "keys", "values") else []
    if isinstance(walked, ast.Call) and getattr(walked.func, "id", None) in ("enumerate", "reversed", "zip"):
        return [name for each in walked.args for name in walked_names(each)]
    return []


def changed_names(loop):
    """The names whose items or order something in a loop changes."""
    for node in ast.walk(loop):
        changed = None
        if isinstance(node, ast.Subscript) and not isinstance(node.ctx, ast.Load):
            changed = node.value
        if isinstance(node, ast.Call) and isinstance(node.func, ast.Attribute) and node.func.attr in CHANGING:
            changed = node.func.value
        if isinstance(node, ast.AugAssign):
            changed = node.target
        if isinstance(changed, ast.Name):
            yield changed.id


def changed_walks(text):
    """The lines of all loops that change, by whatever name, the list that they walk."""
    for function in ast.walk(ast.parse(text)):
        if isinstance(function, ast.FunctionDef):
            groups = shared_names(function)
            for loop in ast.walk(function):
                if isinstance(loop, ast.For):
                    walked = {other for name in walked_names(loop.iter) for other in groups[name]}
                    if any(name in walked for name in changed_names(loop)):
                        yield loop.lineno


class LanguageTest(unittest.TestCase):
    def setUp(self):
        self.texts = {path.name: path.read_text(encoding="utf-8") for path in sorted(PACKAGE.glob("*.py"))}

    def test_files(self):
        self.assertIn("__init__.py", self.texts)
        others = [path.name for path in PACKAGE.iterdir() if path.name not in self.texts]
        self.assertLessEqual(set(others), {"__pycache__"})

    def test_sizes(self):
        for name, text in self.texts.items():
            self.assertLess(len(text.split("\n")), 400, name)
            self.assertLessEqual(max(map(len, text.split("\n"))), 120, name)
            for node in ast.walk(ast.parse(text)):
                if isinstance(node, ast.FunctionDef):
                    self.assertLessEqual(node.end_lineno - node.lineno + 1, 40, (name, node.name))

    def test_characters(self):
        for name, text in self.texts.items():
            self.assertTrue(all(char == "\n" or " " <= char <= "~" for char in text), name)

    def test_imports(self):
        for name, text in self.texts.items():
            for node in ast.walk(ast.parse(text)):
                self.assertNotIsInstance(node, ast.Import, name)
                if isinstance(node, ast.ImportFrom):
                    self.assertTrue(node.module.startswith("needledrop.") or node.module in LIBRARY, name)
                    self.assertEqual([each.asname for each in node.names if each.asname or each.name == "*"], [])

    def test_what_classes_with_signs_forbid(self):
        # A book has == and a drawer has +=, so any, all and the like take
        # lists, and nothing is added in place.
        for name, text in self.texts.items():
            for node in ast.walk(ast.parse(text)):
                self.assertNotIsInstance(node, (ast.GeneratorExp, ast.AugAssign), name)

    def test_no_variable_has_the_name_of_an_import(self):
        for name, text in self.texts.items():
            nodes = list(ast.walk(ast.parse(text)))
            taken = {each.name for node in nodes if isinstance(node, ast.ImportFrom) for each in node.names}
            taken |= {node.name for node in nodes if isinstance(node, ast.ClassDef)}
            used = {node.id for node in nodes if isinstance(node, ast.Name) and isinstance(node.ctx, ast.Store)}
            used |= {node.arg for node in nodes if isinstance(node, ast.arg)}
            self.assertEqual(taken & used, set(), name)
            self.assertFalse([each for each in used if hasattr(builtins, each)], name)

    def test_no_loop_changes_what_it_walks(self):
        for name, text in self.texts.items():
            self.assertEqual(list(changed_walks(text)), [], name)

    def test_changed_walks(self):
        wrong = ("for x in xs: xs.append(x)", "for at, x in enumerate(xs): xs[at] = x", "for k in d.keys(): del d[k]",
                 "for y, x in zip(ys, xs): xs.pop()",
                 "for x in xs: ys.extend(x)\n    xs = ys", "zs = xs\n    for x in xs: ys[0] = x\n    ys = zs")
        right = ("for x in list(xs): xs.append(x)", "for x in xs: ys.append(x)", "for x in sorted(d): del d[x]",
                 "for x in list(xs): ys.append(x)\n    xs = ys")
        for body in wrong + right:
            self.assertEqual(len(list(changed_walks("def f(xs, ys, d):\n    " + body))), int(body in wrong), body)


if __name__ == "__main__":
    unittest.main()
