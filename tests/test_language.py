"""Rules of the language that a plain look at the files can see (L1, L2, L7, L8, L10, L14 to L16, L27)."""

import ast
import builtins
import re
import unittest
from pathlib import Path

PACKAGE = Path(__file__).resolve().parent.parent / "stillspans"

BUILTINS = """len range enumerate zip min max sum abs sorted reversed int str bool bytes list tuple
dict set isinstance ord repr any all divmod iter next map Exception ValueError TypeError KeyError
IndexError LookupError ZeroDivisionError ArithmeticError OverflowError RuntimeError
NotImplementedError AttributeError StopIteration NotImplemented super""".split()

LIBRARY = ("heapq", "math", "itertools")

METHODS = """append clear copy count endswith extend find get index insert isalnum isalpha isdigit
islower isspace isupper items join keys ljust lower lstrip partition pop remove replace reverse
rfind rjust rpartition rsplit rstrip setdefault split splitlines startswith strip update upper
values zfill bit_length add discard sort""".split()


def files():
    return [path for path in sorted(PACKAGE.rglob("*")) if "__pycache__" not in path.parts]


def trees():
    return [(path, ast.parse(path.read_text(encoding="utf-8")))
            for path in files() if path.suffix == ".py"]


def own_names(listed):
    """The functions, methods, classes and attributes that the package defines."""
    found = set()
    for _, tree in listed:
        for node in ast.walk(tree):
            if isinstance(node, (ast.FunctionDef, ast.ClassDef)):
                found.add(node.name)
            if isinstance(node, ast.Attribute) and isinstance(node.ctx, ast.Store):
                found.add(node.attr)
    return found


def imports_of(tree):
    """The imports of a file, as tuples of the file that they name and the name."""
    return [(node.module, alias.name) for node in tree.body if isinstance(node, ast.ImportFrom)
            for alias in node.names]


class Language(unittest.TestCase):
    def test_only_files_with_plain_names(self):
        for path in files():
            if path.is_file():
                self.assertTrue(re.fullmatch(r"[a-z][a-z0-9_]*\.py|__(init|main)__\.py", path.name),
                                path)

    def test_lines_and_characters(self):
        for path in files():
            if path.is_file():
                data = path.read_bytes()
                self.assertTrue(all(byte == 10 or 32 <= byte <= 126 for byte in data), path)
                lines = data.decode("ascii").split("\n")
                self.assertLess(len(lines), 400, path)
                self.assertLessEqual(max(len(line) for line in lines), 120, path)

    def test_functions_are_small_and_plain(self):
        for path, tree in trees():
            for node in ast.walk(tree):
                if isinstance(node, ast.FunctionDef):
                    self.assertLessEqual(node.end_lineno - node.lineno + 1, 40, (path, node.name))
                self.assertNotIsInstance(node, (ast.AsyncFunctionDef, ast.Global, ast.Import,
                                                ast.Div), path)
                if isinstance(node, ast.Pow):
                    self.fail(f"{path}: a power")
                if isinstance(node, ast.Constant):
                    self.assertNotIsInstance(node.value, (float, complex), path)
                    if isinstance(node.value, str):
                        self.assertNotIn(chr(37), node.value, path)

    def test_imports(self):
        for path, tree in trees():
            for node in ast.walk(tree):
                if isinstance(node, ast.ImportFrom):
                    self.assertIn(node, tree.body, path)
                    self.assertEqual(node.level, 0, path)
                    self.assertTrue(node.module.startswith("stillspans.")
                                    or node.module in LIBRARY, (path, node.module))
                    self.assertFalse([name for name in node.names if name.name == "*"], path)

    def test_imports_name_the_file_that_defines_the_name(self):
        bound = {}
        for path, tree in trees():
            names = [node.name for node in tree.body
                     if isinstance(node, (ast.FunctionDef, ast.ClassDef))]
            names += [target.id for node in tree.body if isinstance(node, ast.Assign)
                      for target in node.targets]
            self.assertEqual(len(names), len(set(names)), path)
            bound[f"stillspans.{path.stem}"] = names
        for path, tree in trees():
            for module, name in imports_of(tree):
                if module not in LIBRARY:
                    self.assertIn(name, bound[module], path)

    def test_no_two_files_import_from_each_other(self):
        needed = {f"stillspans.{path.stem}": {module for module, _ in imports_of(tree)}
                  for path, tree in trees()}
        while needed:
            free = [name for name, others in needed.items() if not others & set(needed)]
            self.assertTrue(free, needed)
            for name in free:
                del needed[name]

    def test_no_variable_has_the_name_of_an_import_or_a_class(self):
        for path, tree in trees():
            taken = [name for _, name in imports_of(tree)]
            taken += [node.name for node in tree.body if isinstance(node, ast.ClassDef)]
            self.assertEqual(len(taken), len(set(taken)), path)
            for node in ast.walk(tree):
                if isinstance(node, ast.arg):
                    self.assertNotIn(node.arg, taken, (path, node.lineno))
                if isinstance(node, ast.Name) and isinstance(node.ctx, ast.Store):
                    self.assertNotIn(node.id, taken, (path, node.lineno))

    def test_builtins(self):
        known = set(dir(builtins)) - {"__name__"}
        for path, tree in trees():
            for node in ast.walk(tree):
                if isinstance(node, ast.Name) and node.id in known:
                    self.assertIn(node.id, BUILTINS, (path, node.lineno))
                    self.assertIsInstance(node.ctx, ast.Load, (path, node.lineno))
                if isinstance(node, (ast.FunctionDef, ast.ClassDef, ast.arg)):
                    name = node.arg if isinstance(node, ast.arg) else node.name
                    self.assertNotIn(name, known, (path, node.lineno))

    def test_methods(self):
        listed = trees()
        allowed = own_names(listed) | set(METHODS) | {"__init__"}
        for path, tree in listed:
            for node in ast.walk(tree):
                if isinstance(node, ast.Attribute):
                    self.assertIn(node.attr, allowed, (path, node.lineno))


if __name__ == "__main__":
    unittest.main()
