"""The rules of the language that can be seen at a glance, for all files of the package."""

import ast
import builtins
import pathlib
import unittest

FOLDER = pathlib.Path(__file__).resolve().parent.parent / "untriedways"
LIBRARY = {"heapq", "math", "itertools", "collections"}
BANNED = (
    ast.Global,
    ast.AsyncFunctionDef,
    ast.Import,
    ast.Div,
    ast.Await,
    ast.TryStar,
)
NEVER_CALLED = {"eval", "exec", "open", "input", "print", "vars", "globals", "hash", "id", "callable"}
NEVER_NAMED = {"register", "mro", "elements", "open", "input", "law", "version_info"}
DOUBLED = {"__init__", "__eq__"}
# Of builtin values; all that the package needs of L25.
METHODS = set(
    (
        "append extend get index insert items pop reverse setdefault update values bit_length split join "
        "replace startswith"
    ).split()
)
BUILTIN_METHODS = {name for kind in (int, str, list, dict, tuple, set) for name in dir(kind)}
# As a class has an own ==, these take a list in the place of a generator expression.
TAKE_LISTS = {"any", "all", "min", "max", "sum", "sorted"}


def files():
    return sorted(path for path in FOLDER.rglob("*") if "__pycache__" not in path.parts)


def trees():
    return [(path, ast.parse(path.read_text("utf-8"))) for path in files()]


class LanguageTest(unittest.TestCase):
    def test_the_folder_holds_plain_files_of_python_alone(self):
        self.assertIn(FOLDER / "__init__.py", files())
        for path in files():
            self.assertTrue(path.is_file(), path)
            self.assertRegex(path.name, r"^(__init__|[a-z][a-z0-9_]*)\.py$")

    def test_characters_and_sizes(self):
        for path in files():
            text = path.read_text("utf-8")
            self.assertTrue(all(sign == "\n" or " " <= sign <= "~" for sign in text), path)
            lines = text.split("\n")
            self.assertLessEqual(len(lines), 399, path)
            for at, line in enumerate(lines, 1):
                self.assertLessEqual(len(line), 120, (path, at))

    def test_functions_are_small(self):
        for path, tree in trees():
            for node in ast.walk(tree):
                if isinstance(node, ast.FunctionDef):
                    self.assertLessEqual(node.end_lineno - node.lineno + 1, 40, (path, node.name))

    def test_module_level(self):
        allowed = (ast.Expr, ast.ImportFrom, ast.FunctionDef, ast.ClassDef, ast.Assign)
        for path, tree in trees():
            for node in tree.body:
                self.assertIsInstance(node, allowed, (path, node.lineno))

    def test_imports(self):
        for path, tree in trees():
            for node in ast.walk(tree):
                if isinstance(node, ast.ImportFrom):
                    self.assertIn(node, tree.body, path)
                    self.assertEqual(node.level, 0, path)
                    if node.module not in LIBRARY:
                        self.imported(path, node)

    def test_imports_are_used(self):
        for path, tree in trees():
            read = {node.id for node in ast.walk(tree) if isinstance(node, ast.Name)}
            for node in tree.body:
                if isinstance(node, ast.ImportFrom):
                    self.assertLessEqual({alias.name for alias in node.names}, read, path)

    def imported(self, path, node):
        package, _, file = node.module.partition(".")
        self.assertEqual(package, "untriedways", path)
        body = ast.parse((FOLDER / (file + ".py")).read_text("utf-8")).body
        defined = {one.name for one in body if isinstance(one, (ast.FunctionDef, ast.ClassDef))}
        for one in body:
            if isinstance(one, ast.Assign):
                defined.update(target.id for target in one.targets)
        for alias in node.names:
            self.assertIn(alias.name, defined, path)

    def test_what_is_left_out_of_the_language(self):
        for path, tree in trees():
            for node in ast.walk(tree):
                self.assertNotIsInstance(node, BANNED, path)
                self.assertFalse(isinstance(node, ast.Constant) and isinstance(node.value, float), path)
                if isinstance(node, ast.Call) and isinstance(node.func, ast.Name):
                    self.called(path, node)

    def called(self, path, node):
        self.assertNotIn(node.func.id, NEVER_CALLED, (path, node.lineno))
        if node.func.id in TAKE_LISTS:
            for argument in node.args:
                self.assertNotIsInstance(argument, ast.GeneratorExp, (path, node.lineno))

    def test_no_name_hides_an_import_a_class_or_a_builtin(self):
        for path, tree in trees():
            taken = set(dir(builtins)) | NEVER_NAMED
            for node in tree.body:
                if isinstance(node, ast.ImportFrom):
                    taken.update(alias.name for alias in node.names)
                if isinstance(node, (ast.ClassDef, ast.FunctionDef)):
                    self.assertNotIn(node.name, dir(builtins), path)
                    taken.add(node.name)
            for node in ast.walk(tree):
                if isinstance(node, ast.arg):
                    self.assertNotIn(node.arg, taken - {"part"}, (path, node.lineno))
                if isinstance(node, ast.Name) and isinstance(node.ctx, ast.Store):
                    self.assertNotIn(node.id, taken, (path, node.lineno))

    def test_a_lone_underscore_is_never_read(self):
        for path, tree in trees():
            for node in ast.walk(tree):
                if isinstance(node, ast.Name) and node.id == "_":
                    self.assertIsInstance(node.ctx, ast.Store, (path, node.lineno))

    def test_is_stands_beside_none_and_flags(self):
        for path, tree in trees():
            for node in ast.walk(tree):
                if isinstance(node, ast.Compare) and isinstance(node.ops[0], (ast.Is, ast.IsNot)):
                    right = node.comparators[0]
                    self.assertTrue(isinstance(right, ast.Constant) and right.value in (None, True, False), path)

    def test_sets_are_measured_or_sorted_on_the_spot(self):
        for path, tree in trees():
            right = set()
            for node in ast.walk(tree):
                if isinstance(node, ast.Call) and isinstance(node.func, ast.Name) and node.func.id in ("len", "sorted"):
                    right.update(id(argument) for argument in node.args)
                named = isinstance(node, ast.Call) and isinstance(node.func, ast.Name) and node.func.id == "set"
                if named or isinstance(node, (ast.Set, ast.SetComp)):
                    self.assertIn(id(node), right, (path, node.lineno))

    def test_methods(self):
        own = set()
        for _, tree in trees():
            for node in ast.walk(tree):
                if isinstance(node, ast.ClassDef):
                    own.update(one.name for one in node.body if isinstance(one, ast.FunctionDef))
        for path, tree in trees():
            for node in ast.walk(tree):
                if isinstance(node, ast.Attribute) and node.attr in BUILTIN_METHODS:
                    self.assertIn(node.attr, METHODS | own | DOUBLED, (path, node.lineno))

    def test_classes(self):
        for path, tree in trees():
            for node in tree.body:
                if isinstance(node, ast.ClassDef):
                    self.one_class(path, node)

    def one_class(self, path, node):
        methods = [one.name for one in node.body if isinstance(one, ast.FunctionDef)]
        self.assertEqual(len(methods), len(set(methods)), (path, node.name))
        for name in methods:
            self.assertFalse(name.startswith("__") and name not in DOUBLED, (path, name))
        stored = {
            one.attr
            for one in ast.walk(node)
            if isinstance(one, ast.Attribute) and isinstance(one.ctx, ast.Store)
        }
        self.assertEqual(stored & set(methods), set(), (path, node.name))

    def test_no_file_imports_from_one_that_imports_from_it(self):
        needs = {}
        for path, tree in trees():
            modules = [node.module for node in tree.body if isinstance(node, ast.ImportFrom)]
            needs[path.stem] = [module.split(".")[1] for module in modules if "." in module]
        while needs:
            free = [name for name in needs if not set(needs[name]) & set(needs)]
            self.assertTrue(free, needs)
            for name in free:
                del needs[name]
