"""Those rules for the program's code that are easily told: imports, sizes, signs and names."""

import ast
import builtins
import pathlib
import unittest

FOLDER = pathlib.Path(__file__).resolve().parent.parent / "modesdown"
BUILTINS = set(
    "len range enumerate zip min max sum abs sorted reversed int str bool bytes list tuple dict set frozenset isinstance ord"
    " repr any all divmod pow getattr hasattr setattr iter next map property staticmethod classmethod super Exception"
    " ValueError TypeError KeyError IndexError LookupError ZeroDivisionError ArithmeticError OverflowError RuntimeError"
    " NotImplementedError AttributeError StopIteration NotImplemented".split()
)
LIBRARY = {"heapq", "math", "itertools", "collections", "__future__"}
BARRED = (ast.Global, ast.AsyncFunctionDef, ast.Await, ast.Import, ast.Div)


class Language(unittest.TestCase):
    def setUp(self):
        self.texts = {path.name: path.read_bytes().decode("utf-8") for path in FOLDER.rglob("*.py")}
        self.parsed = {name: ast.parse(text) for name, text in self.texts.items()}
        self.assertIn("__init__.py", self.texts)

    def nodes(self):
        for name, tree in self.parsed.items():
            for node in ast.walk(tree):
                yield name, node

    def test_only_files_of_the_program(self):
        for path in FOLDER.rglob("*"):
            self.assertTrue(path.suffix == ".py" or path.name == "__pycache__" or path.suffix == ".pyc", path)

    def test_sizes_and_signs(self):
        for name, text in self.texts.items():
            self.assertLessEqual(len(text.splitlines()), 399, name)
            for line in text.split("\n"):
                self.assertLessEqual(len(line), 120, (name, line))
                self.assertTrue(all(" " <= sign <= "~" for sign in line), (name, line))

    def test_functions_are_small(self):
        for name, node in self.nodes():
            if isinstance(node, ast.FunctionDef):
                self.assertLessEqual(node.end_lineno - node.lineno + 1, 40, (name, node.name))

    def test_imports_and_statements(self):
        for name, node in self.nodes():
            self.assertNotIsInstance(node, BARRED, (name, getattr(node, "lineno", 0)))
            if isinstance(node, ast.ImportFrom):
                self.assertEqual(node.level, 0, name)
                self.assertTrue(node.module.split(".")[0] in LIBRARY | {"modesdown"}, (name, node.module))
                self.assertNotIn("*", [one.name for one in node.names])

    def test_names(self):
        known = set(dir(builtins))
        for name, node in self.nodes():
            if isinstance(node, ast.Name) and node.id in known:
                self.assertIn(node.id, BUILTINS, (name, node.lineno))
                self.assertIsInstance(node.ctx, ast.Load, (name, node.lineno))
            if isinstance(node, ast.arg):
                self.assertNotIn(node.arg, known, (name, node.lineno))

    def test_no_percent_sign_in_a_string(self):
        for name, node in self.nodes():
            if isinstance(node, ast.Constant) and isinstance(node.value, str):
                self.assertNotIn(chr(37), node.value, (name, node.lineno))


if __name__ == "__main__":
    unittest.main()
