"""The form of the code, as far as it is easily counted: the package is written in a small subset of Python."""

import ast
import builtins
import pathlib
import unittest

PACKAGE = pathlib.Path(__file__).parent.parent / "dotread"
BUILTINS = {
    "len", "range", "enumerate", "zip", "min", "max", "sum", "abs", "sorted", "reversed", "int", "str", "bool", "list",
    "tuple", "dict", "set", "isinstance", "ord", "repr", "any", "all", "divmod", "type", "ValueError",
}
DOUBLE = {"__init__", "__eq__", "__len__", "__repr__", "__str__"}
NOT_USED = (ast.AsyncFunctionDef, ast.Await, ast.Div, ast.Import)
LIBRARY = {"heapq", "math", "itertools", "collections"}


class Form(unittest.TestCase):

    def setUp(self):
        self.files = {path: path.read_text(encoding="utf-8") for path in sorted(PACKAGE.rglob("*.py"))}
        self.trees = {path: ast.parse(text) for path, text in self.files.items()}
        self.assertTrue(self.files)

    def nodes(self, kind):
        return [(path, node) for path, tree in self.trees.items() for node in ast.walk(tree) if isinstance(node, kind)]

    def test_sizes_and_characters(self):
        for path, text in self.files.items():
            lines = text.split("\n")
            self.assertLessEqual(len(lines) - 1, 399, path)
            self.assertLessEqual(max(map(len, lines)), 120, path)
            self.assertTrue(all(sign == "\n" or " " <= sign <= "~" for sign in text), path)
        for path, node in self.nodes(ast.FunctionDef):
            self.assertLessEqual(node.end_lineno - node.lineno + 1, 40, (path, node.name))

    def test_imports(self):
        for path, node in self.nodes(ast.ImportFrom):
            self.assertEqual(node.level, 0, path)
            self.assertTrue(node.module.startswith("dotread.") or node.module in LIBRARY, path)
            self.assertTrue(all(name.name != "*" for name in node.names), path)

    def test_what_is_not_used(self):
        for path, node in self.nodes(NOT_USED):
            self.fail((path, node.lineno))
        for path, node in self.nodes(ast.Constant):
            self.assertNotIsInstance(node.value, (float, complex), path)

    def test_builtins(self):
        for path, tree in self.trees.items():
            used = {node.id for node in ast.walk(tree) if isinstance(node, ast.Name)}
            self.assertLessEqual(used & set(dir(builtins)), BUILTINS, path)

    def test_methods(self):
        for path, node in self.nodes(ast.FunctionDef):
            if node.name.startswith("__"):
                self.assertIn(node.name, DOUBLE, path)
            self.assertEqual(node.decorator_list, [], (path, node.name))

    def test_nothing_beside_the_code(self):
        for path in PACKAGE.rglob("*"):
            if "__pycache__" not in path.parts and not path.is_dir():
                self.assertEqual(path.suffix, ".py")


if __name__ == "__main__":
    unittest.main()
