"""Tests of the form of the package's files: sizes, characters, imports and the words that it keeps to."""

import ast
import re
import unittest
from pathlib import Path

PACKAGE = Path(__file__).resolve().parent.parent / "oldsights"
FILES = sorted(path for path in PACKAGE.iterdir() if path.name != "__pycache__")
BUILTINS = {"len", "range", "enumerate", "zip", "min", "max", "sum", "abs", "sorted", "reversed", "int", "str", "bool",
            "list", "tuple", "dict", "set", "isinstance", "ord", "any", "all", "super", "iter", "ValueError",
            "IndexError", "KeyError", "NotImplemented"}
BARRED = ["typing", "enum", "open", "input", "eval", "exec", "global", "lambda", "async", "await", "print"]


def trees():
    """Each file's path and its parsed text."""
    return [(path, ast.parse(path.read_text())) for path in FILES]


class Form(unittest.TestCase):
    def test_files(self):
        for path in FILES:
            self.assertRegex(path.name, r"^[a-z_]+\.py$")
        self.assertIn("__init__.py", [path.name for path in FILES])

    def test_sizes(self):
        for path, tree in trees():
            lines = path.read_text().split("\n")
            self.assertLess(len(lines), 400, path)
            self.assertLessEqual(max(map(len, lines)), 120, path)
            for node in ast.walk(tree):
                if isinstance(node, ast.FunctionDef):
                    self.assertLessEqual(node.end_lineno - node.lineno + 1, 40, node.name)

    def test_characters(self):
        for path in FILES:
            self.assertRegex(path.read_bytes(), rb"\A[\n -~]+\n\Z", path)

    def test_imports(self):
        for path, tree in trees():
            for node in ast.walk(tree):
                self.assertNotIsInstance(node, ast.Import)
                if isinstance(node, ast.ImportFrom):
                    self.assertRegex(node.module, r"^oldsights\.[a-z_]+$")
                    defined = self.defined(PACKAGE / (node.module.split(".")[1] + ".py"))
                    for name in node.names:
                        self.assertIsNone(name.asname)
                        self.assertIn(name.name, defined)

    def test_imports_are_used(self):
        for path, tree in trees():
            used = {node.id for node in ast.walk(tree) if isinstance(node, ast.Name)}
            for node in tree.body:
                if isinstance(node, ast.ImportFrom):
                    self.assertLessEqual({name.name for name in node.names}, used, path)

    def defined(self, path):
        names = []
        for node in ast.parse(path.read_text()).body:
            if isinstance(node, (ast.FunctionDef, ast.ClassDef)):
                names.append(node.name)
            if isinstance(node, ast.Assign):
                names.append(node.targets[0].id)
        return names

    def test_module_level(self):
        kinds = (ast.ImportFrom, ast.FunctionDef, ast.ClassDef, ast.Assign)
        for path, tree in trees():
            self.assertIsInstance(tree.body[0].value, ast.Constant, path)
            for node in tree.body[1:]:
                self.assertIsInstance(node, kinds, path)

    def test_names(self):
        for path, tree in trees():
            known = set(BUILTINS)
            for node in ast.walk(tree):
                if isinstance(node, (ast.FunctionDef, ast.ClassDef)):
                    known.add(node.name)
                    self.assertTrue(ast.get_docstring(node) or node.name.startswith("__"), node.name)
                    self.assertNotIn(node.name, BUILTINS)
                elif isinstance(node, ast.arg):
                    known.add(node.arg)
                    self.assertNotIn(node.arg, BUILTINS)
                elif isinstance(node, ast.alias):
                    known.add(node.name)
                elif isinstance(node, ast.Name) and isinstance(node.ctx, ast.Store):
                    known.add(node.id)
                    self.assertNotIn(node.id, BUILTINS)
            for node in ast.walk(tree):
                if isinstance(node, ast.Name):
                    self.assertIn(node.id, known, path)

    def test_words_and_signs(self):
        for path, tree in trees():
            for word in BARRED:
                self.assertIsNone(re.search(rf"\b{word}\b", path.read_text()), (path, word))
            for node in ast.walk(tree):
                self.assertNotIsInstance(node, (ast.GeneratorExp, ast.Div, ast.Global))


if __name__ == "__main__":
    unittest.main()
