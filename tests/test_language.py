"""Some rules for the files of the package that can be counted: sizes, characters, imports, names."""

import ast
import builtins
import os
import re
import unittest

PACKAGE = os.path.join(os.path.dirname(os.path.dirname(os.path.abspath(__file__))), "chipfloor")
LIBRARY = {
    "heapq": {"heappush", "heappop", "heapify", "heapreplace", "heappushpop"},
    "math": {"gcd", "lcm", "isqrt", "comb", "perm", "factorial"},
    "itertools": {"product", "combinations", "permutations"},
}
BUILTINS = set("""
len range enumerate zip min max sum abs sorted reversed int str bool bytes list tuple dict set frozenset isinstance
ord repr any all divmod iter next Exception ValueError TypeError KeyError IndexError LookupError ZeroDivisionError
ArithmeticError OverflowError RuntimeError NotImplementedError AttributeError StopIteration NotImplemented super
property staticmethod classmethod
""".split())


def files():
    for folder, folders, names in os.walk(PACKAGE):
        if "__pycache__" in folders:
            folders.remove("__pycache__")
        for name in sorted(names):
            yield os.path.join(folder, name)


def parsed(path):
    with open(path, encoding="utf-8") as file:
        text = file.read()
    return text, ast.parse(text)


class Language(unittest.TestCase):
    def test_files(self):
        for path in files():
            self.assertRegex(os.path.basename(path), r"^[a-z0-9_]+\.py$")

    def test_sizes_and_characters(self):
        for path in files():
            text, tree = parsed(path)
            with self.subTest(path):
                self.assertLessEqual(len(text.splitlines()), 399)
                self.assertLessEqual(max([len(line) for line in text.splitlines()]), 120)
                self.assertRegex(text, re.compile(r"^[ -~\n]*$"))
                for part in ast.walk(tree):
                    if isinstance(part, ast.FunctionDef):
                        self.assertLessEqual(part.end_lineno - part.lineno + 1, 40, part.name)

    def test_imports(self):
        for path in files():
            for part in ast.walk(parsed(path)[1]):
                self.assertNotIsInstance(part, ast.Import, path)
                if isinstance(part, ast.ImportFrom):
                    names = {alias.name for alias in part.names}
                    self.assertEqual(part.level, 0, path)
                    if not part.module.startswith("chipfloor."):
                        self.assertLessEqual(names, LIBRARY[part.module], path)
                    self.assertEqual([alias.asname for alias in part.names], [None] * len(part.names), path)

    def test_imported_from_the_file_that_defines_the_name(self):
        for path in files():
            for part in parsed(path)[1].body:
                if isinstance(part, ast.ImportFrom) and part.module not in LIBRARY:
                    source = os.path.join(os.path.dirname(PACKAGE), *part.module.split(".")) + ".py"
                    defined = self.names_bound(parsed(source)[1])
                    self.assertLessEqual({alias.name for alias in part.names}, defined, path)

    def names_bound(self, tree):
        """The names of functions, classes and values at module level."""
        names = {part.name for part in tree.body if isinstance(part, (ast.FunctionDef, ast.ClassDef))}
        return names | {part.targets[0].id for part in tree.body if isinstance(part, ast.Assign)}

    def test_no_other_names_are_read(self):
        for path in files():
            tree = parsed(path)[1]
            known = set(BUILTINS) | self.names_bound(tree)
            for part in ast.walk(tree):
                if isinstance(part, ast.ImportFrom):
                    known |= {alias.name for alias in part.names}
                elif isinstance(part, ast.arg):
                    known.add(part.arg)
                elif isinstance(part, ast.FunctionDef):
                    known.add(part.name)
                elif isinstance(part, ast.Name) and isinstance(part.ctx, ast.Store):
                    known.add(part.id)
            read = {part.id for part in ast.walk(tree) if isinstance(part, ast.Name)}
            self.assertLessEqual(read, known, path)

    def test_no_local_name_hides_an_import_or_a_builtin(self):
        for path in files():
            tree = parsed(path)[1]
            imported = {alias.name for part in tree.body if isinstance(part, ast.ImportFrom) for alias in part.names}
            for part in ast.walk(tree):
                name = None
                if isinstance(part, ast.arg):
                    name = part.arg
                elif isinstance(part, (ast.FunctionDef, ast.ClassDef)):
                    name = part.name
                elif isinstance(part, ast.Name) and isinstance(part.ctx, ast.Store):
                    name = part.id
                self.assertNotIn(name, imported, path)
                # A session at the prompt, and doctest, add the builtin _.
                self.assertNotIn(name, set(dir(builtins)) - {"_"}, path)

    def test_imports_make_no_ring(self):
        needs = {}
        for path in files():
            name = os.path.basename(path)[:-3]
            needs[name] = {part.module.split(".")[1] for part in parsed(path)[1].body
                           if isinstance(part, ast.ImportFrom) and part.module not in LIBRARY}
        while needs:
            free = [name for name, others in needs.items() if not others & set(needs)]
            self.assertTrue(free, needs)
            needs = {name: others for name, others in needs.items() if name not in free}

    def test_no_floats_and_no_division(self):
        for path in files():
            for part in ast.walk(parsed(path)[1]):
                self.assertNotIsInstance(part, (ast.Div, ast.Global, ast.AsyncFunctionDef, ast.SetComp), path)
                if isinstance(part, ast.Constant):
                    self.assertNotIsInstance(part.value, (float, complex), path)


if __name__ == "__main__":
    unittest.main()
