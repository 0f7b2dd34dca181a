"""The rules of the language that can be seen at a glance, for all files of the package."""

import ast
import pathlib
import unittest

FOLDER = pathlib.Path(__file__).resolve().parent.parent / "untriedways"
LIBRARY = {"heapq", "math", "itertools", "collections"}
BANNED = (
    ast.Global,
    ast.AsyncFunctionDef,
    ast.Import,
    ast.Div,
    ast.Await,
    ast.TryStar,
)
NEVER_CALLED = {"eval", "exec", "open", "input", "print", "vars", "globals", "hash", "id", "callable"}
# As a class has an own ==, these take a list in the place of a generator expression.
TAKE_LISTS = {"any", "all", "min", "max", "sum", "sorted"}


def files():
    return sorted(path for path in FOLDER.rglob("*") if "__pycache__" not in path.parts)


def trees():
    return [(path, ast.parse(path.read_text("utf-8"))) for path in files()]


class LanguageTest(unittest.TestCase):
    def test_the_folder_holds_plain_files_of_python_alone(self):
        self.assertIn(FOLDER / "__init__.py", files())
        for path in files():
            self.assertTrue(path.is_file(), path)
            self.assertRegex(path.name, r"^(__init__|[a-z][a-z0-9_]*)\.py$")

    def test_characters_and_sizes(self):
        for path in files():
            text = path.read_text("utf-8")
            self.assertTrue(all(sign == "\n" or " " <= sign <= "~" for sign in text), path)
            lines = text.split("\n")
            self.assertLessEqual(len(lines), 399, path)
            for at, line in enumerate(lines, 1):
                self.assertLessEqual(len(line), 120, (path, at))

    def test_functions_are_small(self):
        for path, tree in trees():
            for node in ast.walk(tree):
                if isinstance(node, ast.FunctionDef):
                    self.assertLessEqual(node.end_lineno - node.lineno + 1, 40, (path, node.name))

    def test_module_level(self):
        allowed = (ast.Expr, ast.ImportFrom, ast.FunctionDef, ast.ClassDef, ast.Assign)
        for path, tree in trees():
            for node in tree.body:
                self.assertIsInstance(node, allowed, (path, node.lineno))

    def test_imports(self):
        for path, tree in trees():
            for node in ast.walk(tree):
                if isinstance(node, ast.ImportFrom):
                    self.assertIn(node, tree.body, path)
                    self.assertEqual(node.level, 0, path)
                    if node.module not in LIBRARY:
                        self.imported(path, node)

    def imported(self, path, node):
        package, _, file = node.module.partition(".")
        self.assertEqual(package, "untriedways", path)
        body = ast.parse((FOLDER / (file + ".py")).read_text("utf-8")).body
        defined = {one.name for one in body if isinstance(one, (ast.FunctionDef, ast.ClassDef))}
        for one in body:
            if isinstance(one, ast.Assign):
                defined.update(target.id for target in one.targets)
        for alias in node.names:
            self.assertIn(alias.name, defined, path)

    def test_what_is_left_out_of_the_language(self):
        for path, tree in trees():
            for node in ast.walk(tree):
                self.assertNotIsInstance(node, BANNED, path)
                self.assertFalse(isinstance(node, ast.Constant) and isinstance(node.value, float), path)
                if isinstance(node, ast.Call) and isinstance(node.func, ast.Name):
                    self.called(path, node)

    def called(self, path, node):
        self.assertNotIn(node.func.id, NEVER_CALLED, (path, node.lineno))
        if node.func.id in TAKE_LISTS:
            for argument in node.args:
                self.assertNotIsInstance(argument, ast.GeneratorExp, (path, node.lineno))
