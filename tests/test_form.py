"""Tests of the form of the package's files: sizes, characters, imports and the words that it keeps to."""

import ast
import re
import unittest
from pathlib import Path

PACKAGE = Path(__file__).resolve().parent.parent / "oldsights"
FILES = sorted(path for path in PACKAGE.iterdir() if path.name != "__pycache__")
BUILTINS = {"len", "range", "enumerate", "zip", "min", "max", "sum", "abs", "sorted", "reversed", "int", "str", "bool",
            "list", "tuple", "dict", "set", "isinstance", "ord", "any", "all", "super", "iter", "ValueError",
            "IndexError", "KeyError", "NotImplemented"}
CHANGING = {"append", "clear", "extend", "insert", "pop", "remove", "reverse", "setdefault", "sort", "update"}
WALKERS = {"enumerate", "zip", "reversed"}
BARRED = ["typing", "enum", "open", "input", "eval", "exec", "global", "lambda", "async", "await", "print"]


def trees():
    """Each file's path and its parsed text."""
    return [(path, ast.parse(path.read_text())) for path in FILES]


def choices(node):
    """What the expression may be: itself, or each side of a choice."""
    if isinstance(node, ast.IfExp):
        return choices(node.body) + choices(node.orelse)
    if isinstance(node, ast.BoolOp):
        return [one for value in node.values for one in choices(value)]
    return [node]


def places(node):
    """The names and attributes, as texts, whose list the expression may be."""
    return [ast.unparse(one) for one in choices(node) if isinstance(one, (ast.Name, ast.Attribute))]


def walked(node):
    """The names and attributes, as texts, that a loop over the expression walks."""
    if isinstance(node, ast.Call) and isinstance(node.func, ast.Name) and node.func.id in WALKERS:
        return [place for arg in node.args for place in walked(arg)]
    if isinstance(node, ast.Call) and isinstance(node.func, ast.Attribute):
        return places(node.func.value) if node.func.attr in ("items", "keys", "values") else []
    return places(node)


def changed(node):
    """The names and attributes, as texts, whose list or dict something in the node changes."""
    found = []
    for inner in ast.walk(node):
        if isinstance(inner, ast.Call) and isinstance(inner.func, ast.Attribute) and inner.func.attr in CHANGING:
            found += places(inner.func.value)
        if isinstance(inner, ast.Subscript) and isinstance(inner.ctx, (ast.Store, ast.Del)):
            found += places(inner.value)
        if isinstance(inner, ast.AugAssign):
            found += places(inner.target)
    return found


def same(function, place):
    """All names and attributes of the function that may be the same list as this one, by assignments."""
    pairs = [(ast.unparse(target), other) for node in ast.walk(function) if isinstance(node, ast.Assign)
             for target in node.targets for other in places(node.value)]
    pairs += [(high, low) for low, high in pairs]
    found, left = {place}, [place]
    while left:
        one = left.pop()
        further = {high for low, high in pairs if low == one} - found
        found |= further
        left += further
    return found


def changed_walks(function):
    """The lines of all loops in the function that change what they walk, whatever its name there."""
    lines = []
    for node in ast.walk(function):
        if isinstance(node, ast.For):
            heads = [node.iter]
        elif isinstance(node, (ast.ListComp, ast.SetComp, ast.DictComp)):
            heads = [inner.iter for inner in node.generators]
        else:
            continue
        whole = {place for head in heads for at in walked(head) for place in same(function, at)}
        if whole & set(changed(node)):
            lines.append(node.lineno)
    return lines


class Form(unittest.TestCase):
    def test_files(self):
        for path in FILES:
            self.assertRegex(path.name, r"^[a-z_]+\.py$")
        self.assertIn("__init__.py", [path.name for path in FILES])

    def test_sizes(self):
        for path, tree in trees():
            lines = path.read_text().split("\n")
            self.assertLess(len(lines), 400, path)
            self.assertLessEqual(max(map(len, lines)), 120, path)
            for node in ast.walk(tree):
                if isinstance(node, ast.FunctionDef):
                    self.assertLessEqual(node.end_lineno - node.lineno + 1, 40, node.name)

    def test_characters(self):
        for path in FILES:
            self.assertRegex(path.read_bytes(), rb"\A[\n -~]+\n\Z", path)

    def test_imports(self):
        for path, tree in trees():
            for node in ast.walk(tree):
                self.assertNotIsInstance(node, ast.Import)
                if isinstance(node, ast.ImportFrom):
                    self.assertRegex(node.module, r"^oldsights\.[a-z_]+$")
                    defined = self.defined(PACKAGE / (node.module.split(".")[1] + ".py"))
                    for name in node.names:
                        self.assertIsNone(name.asname)
                        self.assertIn(name.name, defined)

    def test_imports_are_used(self):
        for path, tree in trees():
            used = {node.id for node in ast.walk(tree) if isinstance(node, ast.Name)}
            for node in tree.body:
                if isinstance(node, ast.ImportFrom):
                    self.assertLessEqual({name.name for name in node.names}, used, path)

    def defined(self, path):
        names = []
        for node in ast.parse(path.read_text()).body:
            if isinstance(node, (ast.FunctionDef, ast.ClassDef)):
                names.append(node.name)
            if isinstance(node, ast.Assign):
                names.append(node.targets[0].id)
        return names

    def test_module_level(self):
        kinds = (ast.ImportFrom, ast.FunctionDef, ast.ClassDef, ast.Assign)
        for path, tree in trees():
            self.assertIsInstance(tree.body[0].value, ast.Constant, path)
            for node in tree.body[1:]:
                self.assertIsInstance(node, kinds, path)

    def test_names(self):
        for path, tree in trees():
            known = set(BUILTINS)
            for node in ast.walk(tree):
                if isinstance(node, (ast.FunctionDef, ast.ClassDef)):
                    known.add(node.name)
                    self.assertTrue(ast.get_docstring(node) or node.name.startswith("__"), node.name)
                    self.assertNotIn(node.name, BUILTINS)
                elif isinstance(node, ast.arg):
                    known.add(node.arg)
                    self.assertNotIn(node.arg, BUILTINS)
                elif isinstance(node, ast.alias):
                    known.add(node.name)
                elif isinstance(node, ast.Name) and isinstance(node.ctx, ast.Store):
                    known.add(node.id)
                    self.assertNotIn(node.id, BUILTINS)
            for node in ast.walk(tree):
                if isinstance(node, ast.Name):
                    self.assertIn(node.id, known, path)

    def test_loops_do_not_change_what_they_walk(self):
        for path, tree in trees():
            for node in ast.walk(tree):
                if isinstance(node, ast.FunctionDef):
                    self.assertEqual(changed_walks(node), [], (path, node.name))

    def test_changed_walks_are_found(self):
        heads = {"xs": [3], "enumerate(xs)": [3], "xs if ys else zs": [3], "zs or xs": [3], "ys": [3], "b.rows": [3],
                 "list(xs)": [], "list(ys)": [], "zs": [], "sorted(b.rows)": []}
        for head, lines in heads.items():
            text = f"def f(xs, zs, b):\n    ys = b.rows = xs\n    for x in {head}:\n        xs.append(x)\n"
            self.assertEqual(changed_walks(ast.parse(text)), lines, head)
        text = "def f(xs):\n  while xs:\n    ys = []\n    for x in xs:\n      ys.append(x)\n    xs = ys\n"
        self.assertEqual(changed_walks(ast.parse(text)), [4])
        self.assertEqual(changed_walks(ast.parse(text.replace("in xs:", "in list(xs):"))), [])
        self.assertEqual(changed_walks(ast.parse("def f(xs):\n    return [xs.pop() for x in xs]\n")), [2])

    def test_words_and_signs(self):
        for path, tree in trees():
            for word in BARRED:
                self.assertIsNone(re.search(rf"\b{word}\b", path.read_text()), (path, word))
            for node in ast.walk(tree):
                self.assertNotIsInstance(node, (ast.GeneratorExp, ast.Div, ast.Global))


if __name__ == "__main__":
    unittest.main()
