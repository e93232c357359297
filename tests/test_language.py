"""The package keeps to its small part of Python, as far as a simple look at its files can tell."""

import ast
import builtins
import os
import unittest

FOLDER = os.path.join(os.path.dirname(os.path.dirname(os.path.abspath(__file__))), "allcoursesfit")
ALLOWED = """len range enumerate zip min max sum abs sorted reversed int str bool bytes list tuple dict set frozenset
isinstance ord repr any all divmod pow getattr hasattr setattr iter next map property staticmethod classmethod super
Exception ValueError TypeError KeyError IndexError LookupError ZeroDivisionError ArithmeticError OverflowError
RuntimeError NotImplementedError AttributeError StopIteration NotImplemented object type""".split()
LIBRARY = {"heapq": "heappush heappop heapify heapreplace heappushpop", "math": "gcd lcm isqrt comb perm factorial",
           "itertools": "product combinations permutations chain accumulate pairwise islice zip_longest",
           "collections": "defaultdict deque"}


def files():
    """The name and the text of each file of the package."""
    found = []
    for folder, folders, names in os.walk(FOLDER):
        folders[:] = [name for name in folders if name != "__pycache__"]
        for name in sorted(names):
            with open(os.path.join(folder, name), encoding="utf-8", newline="") as file:
                found.append((os.path.relpath(os.path.join(folder, name), FOLDER), file.read()))
    return found


class Language(unittest.TestCase):
    def test_files(self):
        names = [name for name, text in files()]
        self.assertIn("__init__.py", names)
        for name in names:
            self.assertRegex(name, r"\A(__init__|[a-z][a-z0-9_]*)\.py\Z")

    def test_sizes_and_signs(self):
        for name, text in files():
            lines = text.split("\n")
            self.assertLessEqual(len(lines) - 1, 399, name)
            self.assertLessEqual(max([len(line) for line in lines]), 120, name)
            self.assertEqual([sign for sign in text if not (" " <= sign <= "~" or sign == "\n")], [], name)

    def test_functions(self):
        for name, text in files():
            for node in ast.walk(ast.parse(text)):
                if isinstance(node, (ast.FunctionDef, ast.Lambda)):
                    self.assertLessEqual(node.end_lineno - node.lineno + 1, 40, (name, node.lineno))
                    told = node.args
                    every = told.posonlyargs + told.args + told.kwonlyargs
                    self.assertEqual([one.arg for one in every if hasattr(builtins, one.arg)], [], name)

    def test_imports(self):
        for name, text in files():
            for node in ast.walk(ast.parse(text)):
                self.assertNotIsInstance(node, ast.Import, name)
                if isinstance(node, ast.ImportFrom):
                    words = [one.name for one in node.names]
                    self.assertEqual((node.level, [one.asname for one in node.names]), (0, [None] * len(words)), name)
                    if not node.module.startswith("allcoursesfit."):
                        self.assertEqual([word for word in words if word not in LIBRARY[node.module].split()], [], name)

    def test_syntax_and_builtins(self):
        barred = (ast.AsyncFunctionDef, ast.Await, ast.Global, ast.Div, ast.MatMult)
        for name, text in files():
            for node in ast.walk(ast.parse(text)):
                self.assertNotIsInstance(node, barred, name)
                if isinstance(node, ast.Constant):
                    self.assertNotIsInstance(node.value, (float, complex), name)
                if isinstance(node, ast.Name) and hasattr(builtins, node.id):
                    self.assertIn(node.id, ALLOWED, (name, node.lineno))
                if isinstance(node, ast.Name) and not isinstance(node.ctx, ast.Load):
                    self.assertFalse(hasattr(builtins, node.id), (name, node.lineno))


if __name__ == "__main__":
    unittest.main()
