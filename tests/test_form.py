"""The form of the package: what of shared/LANGUAGE.md a look at each file can tell."""

import ast
import pathlib
import unittest

ROOT = pathlib.Path(__file__).resolve().parent.parent
PACKAGE = ROOT / "greatestback"
FILES = sorted(PACKAGE.iterdir())

LIBRARY = {"heapq", "math", "itertools", "collections"}
BUILTINS = {
    "len", "range", "enumerate", "zip", "min", "max", "sum", "abs", "sorted", "reversed", "int", "str", "bool", "list",
    "tuple", "dict", "set", "isinstance", "ord", "repr", "any", "all", "divmod", "iter", "next", "map",
}
TAKE_LISTS = {"sorted", "any", "all", "sum", "min", "max"}
BARRED = (ast.AsyncFunctionDef, ast.Await, ast.Div, ast.Import)
METHODS = {
    "append", "clear", "copy", "count", "endswith", "extend", "find", "get", "index", "insert", "isdigit", "items", "join",
    "keys", "pop", "remove", "replace", "reverse", "setdefault", "sort", "split", "splitlines", "startswith", "strip",
    "update", "values", "zfill",
}


def names_of(node):
    """The names that a function binds: its parameters and what it assigns."""
    parameters = node.args.posonlyargs + node.args.args + node.args.kwonlyargs
    stored = [one.id for one in ast.walk(node) if isinstance(one, ast.Name) and isinstance(one.ctx, ast.Store)]
    return [one.arg for one in parameters] + stored


class Form(unittest.TestCase):

    def trees(self):
        for path in FILES:
            if path.suffix == ".py":
                yield path.name, path.read_text(), ast.parse(path.read_text())

    def test_the_folder_contains_nothing_but_plain_python_files(self):
        for path in FILES:
            if path.name != "__pycache__":
                self.assertRegex(path.name, "^([a-z0-9_]+)[.]py$")
                self.assertNotRegex(path.name, "^test")

    def test_size_and_characters(self):
        for name, text, tree in self.trees():
            lines = text.split("\n")
            self.assertLessEqual(len(lines), 400, name)
            for number, line in enumerate(lines, start=1):
                self.assertLessEqual(len(line), 120, f"{name}:{number}")
                self.assertTrue(all(" " <= sign <= "~" for sign in line), f"{name}:{number}")
            for node in ast.walk(tree):
                if isinstance(node, ast.FunctionDef):
                    self.assertLessEqual(node.end_lineno - node.lineno + 1, 40, f"{name}: {node.name}")

    def test_imports(self):
        for name, _, tree in self.trees():
            for node in ast.walk(tree):
                if isinstance(node, ast.ImportFrom):
                    self.assertIn(node, tree.body, name)
                    self.assertEqual(node.level, 0)
                    package, _, file = node.module.partition(".")
                    if package not in LIBRARY:
                        self.assertEqual(package, "greatestback", name)
                        told = ast.parse((PACKAGE / f"{file}.py").read_text()).body
                        defined = [one.name for one in told if isinstance(one, (ast.FunctionDef, ast.ClassDef))]
                        defined += [one.targets[0].id for one in told if isinstance(one, ast.Assign)]
                        for alias in node.names:
                            self.assertIn(alias.name, defined, f"{name} imports it from a file that does not define it")

    def test_no_two_files_import_from_each_other(self):
        imports = {}
        for name, _, tree in self.trees():
            modules = [node.module for node in tree.body if isinstance(node, ast.ImportFrom)]
            imports[name[:-3]] = [told.partition(".")[2] for told in modules if told.startswith("greatestback.")]
        reached = {name: set(told) for name, told in imports.items()}
        for _ in imports:
            reached = {name: told.union(*[reached[one] for one in told]) for name, told in reached.items()}
        self.assertEqual([name for name in reached if name in reached[name]], [])

    def test_what_is_never_allowed(self):
        for name, _, tree in self.trees():
            for node in ast.walk(tree):
                place = f"{name}:{getattr(node, 'lineno', 0)}"
                self.assertNotIsInstance(node, BARRED, place)
                if isinstance(node, ast.Constant):
                    self.assertIn(type(node.value), (int, str, bool, type(None)), place)
                    self.assertNotIn("%", str(node.value), place)

    def test_names(self):
        for name, _, tree in self.trees():
            bound = [alias.name for node in tree.body if isinstance(node, ast.ImportFrom) for alias in node.names]
            bound += [node.name for node in tree.body if isinstance(node, (ast.FunctionDef, ast.ClassDef))]
            bound += [target.id for node in tree.body if isinstance(node, ast.Assign) for target in node.targets]
            self.assertEqual(len(bound), len(set(bound)), name)
            builtin = set(dir(__builtins__)) if not isinstance(__builtins__, dict) else set(__builtins__)
            self.assertEqual(set(bound) & builtin, set(), name)
            for node in ast.walk(tree):
                if isinstance(node, ast.FunctionDef):
                    self.assertEqual(set(names_of(node)) & (builtin | set(bound)), set(), f"{name}: {node.name}")

    def test_calls(self):
        for name, _, tree in self.trees():
            given = {one for node in tree.body if isinstance(node, ast.FunctionDef) for one in names_of(node)}
            taken = {alias.name for node in tree.body if isinstance(node, ast.ImportFrom) and node.module in LIBRARY
                     for alias in node.names}
            own = {node.name for _, _, one in self.trees() for node in ast.walk(one)
                   if isinstance(node, (ast.FunctionDef, ast.ClassDef))}
            for node in ast.walk(tree):
                if isinstance(node, ast.Call):
                    place = f"{name}:{node.lineno}"
                    if isinstance(node.func, ast.Name):
                        self.assertIn(node.func.id, own | BUILTINS | given | taken, place)
                        if node.func.id in TAKE_LISTS:
                            self.assertNotIsInstance(node.args[0], ast.GeneratorExp, place)
                    else:
                        self.assertIsInstance(node.func, ast.Attribute, place)
                        self.assertIn(node.func.attr, own | METHODS, place)
                if isinstance(node, ast.Raise):
                    self.assertTrue(isinstance(node.exc, ast.Call) and node.exc.func.id in own, f"{name}:{node.lineno}")

    def test_only_own_errors_are_caught(self):
        own = [node.name for name, _, tree in self.trees() if name == "errors.py" for node in tree.body
               if isinstance(node, ast.ClassDef)]
        for name, _, tree in self.trees():
            for node in ast.walk(tree):
                if isinstance(node, ast.ExceptHandler):
                    self.assertIsInstance(node.type, ast.Name, name)
                    self.assertIn(node.type.id, own, name)

    def test_only_names_stand_behind_a_star(self):
        for name, _, tree in self.trees():
            for node in ast.walk(tree):
                if isinstance(node, ast.Starred):
                    self.assertIsInstance(node.value, ast.Name, f"{name}:{node.lineno}")

    def test_sets_are_made_only_where_they_are_used_up(self):
        for name, _, tree in self.trees():
            used = [node.args[0] for node in ast.walk(tree) if isinstance(node, ast.Call) and node.args
                    and isinstance(node.func, ast.Name) and node.func.id in ("sorted", "len")]
            for node in ast.walk(tree):
                made = isinstance(node, ast.Call) and isinstance(node.func, ast.Name) and node.func.id == "set"
                if made or isinstance(node, (ast.Set, ast.SetComp)):
                    self.assertIn(node, used, f"{name}:{node.lineno}")
