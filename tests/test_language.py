"""The package keeps to its small part of Python, as far as a simple look at its files can tell."""

import ast
import builtins
import os
import unittest

FOLDER = os.path.join(os.path.dirname(os.path.dirname(os.path.abspath(__file__))), "allcoursesfit")
ALLOWED = """len range enumerate zip min max sum abs sorted reversed int str bool bytes list tuple dict set frozenset
isinstance ord repr any all divmod pow getattr hasattr setattr iter next map property staticmethod classmethod super
Exception ValueError TypeError KeyError IndexError LookupError ZeroDivisionError ArithmeticError OverflowError
RuntimeError NotImplementedError AttributeError StopIteration NotImplemented object type""".split()
LIBRARY = {"heapq": "heappush heappop heapify heapreplace heappushpop", "math": "gcd lcm isqrt comb perm factorial",
           "itertools": "product combinations permutations chain accumulate pairwise islice zip_longest",
           "collections": "defaultdict deque"}


def files():
    """The name and the text of each file of the package."""
    found = []
    for folder, folders, names in os.walk(FOLDER):
        folders[:] = [name for name in folders if name != "__pycache__"]
        for name in sorted(names):
            with open(os.path.join(folder, name), encoding="utf-8", newline="") as file:
                found.append((os.path.relpath(os.path.join(folder, name), FOLDER), file.read()))
    return found


class Language(unittest.TestCase):
    def test_files(self):
        names = [name for name, text in files()]
        self.assertIn("__init__.py", names)
        for name in names:
            self.assertRegex(name, r"\A(__init__|[a-z][a-z0-9_]*)\.py\Z")

    def test_sizes_and_signs(self):
        for name, text in files():
            lines = text.split("\n")
            self.assertLessEqual(len(lines) - 1, 399, name)
            self.assertLessEqual(max([len(line) for line in lines]), 120, name)
            self.assertEqual([sign for sign in text if not (" " <= sign <= "~" or sign == "\n")], [], name)

    def test_functions(self):
        for name, text in files():
            for node in ast.walk(ast.parse(text)):
                if isinstance(node, (ast.FunctionDef, ast.Lambda)):
                    self.assertLessEqual(node.end_lineno - node.lineno + 1, 40, (name, node.lineno))
                    told = node.args
                    every = told.posonlyargs + told.args + told.kwonlyargs
                    self.assertEqual([one.arg for one in every if hasattr(builtins, one.arg)], [], name)

    def test_imports(self):
        for name, text in files():
            for node in ast.walk(ast.parse(text)):
                self.assertNotIsInstance(node, ast.Import, name)
                if isinstance(node, ast.ImportFrom):
                    words = [one.name for one in node.names]
                    self.assertEqual((node.level, [one.asname for one in node.names]), (0, [None] * len(words)), name)
                    if not node.module.startswith("allcoursesfit."):
                        self.assertEqual([word for word in words if word not in LIBRARY[node.module].split()], [], name)

    def test_syntax_and_builtins(self):
        barred = (ast.AsyncFunctionDef, ast.Await, ast.Global, ast.Div, ast.MatMult)
        for name, text in files():
            for node in ast.walk(ast.parse(text)):
                self.assertNotIsInstance(node, barred, name)
                if isinstance(node, ast.Constant):
                    self.assertNotIsInstance(node.value, (float, complex), name)
                if isinstance(node, ast.Name) and hasattr(builtins, node.id):
                    self.assertIn(node.id, ALLOWED, (name, node.lineno))
                if isinstance(node, ast.Name) and not isinstance(node.ctx, ast.Load):
                    self.assertFalse(hasattr(builtins, node.id), (name, node.lineno))

    def test_sets_signs_and_what_is(self):
        barred = (ast.Set, ast.SetComp, ast.GeneratorExp, ast.Global, ast.Nonlocal, ast.Yield, ast.YieldFrom)
        for name, text in files():
            for node in ast.walk(ast.parse(text)):
                self.assertNotIsInstance(node, barred, name)
                if isinstance(node, ast.Constant) and isinstance(node.value, str):
                    self.assertNotIn("%", node.value, (name, node.lineno))
                if isinstance(node, ast.Compare):
                    for sign, told in zip(node.ops, node.comparators):
                        if isinstance(sign, (ast.Is, ast.IsNot)):
                            self.assertIsInstance(told, ast.Constant, (name, node.lineno))
                            self.assertIn(told.value, (None, True, False))

    def test_each_name_is_bound_once(self):
        for name, text in files():
            bound, taken = [], []
            for node in ast.parse(text).body:
                if isinstance(node, ast.ImportFrom):
                    bound += [one.name for one in node.names]
                    taken += [one.name for one in node.names]
                elif isinstance(node, (ast.FunctionDef, ast.ClassDef)):
                    bound.append(node.name)
                    taken += [node.name] if isinstance(node, ast.ClassDef) else []
                elif isinstance(node, ast.Assign):
                    bound += [one.id for one in node.targets]
            self.assertEqual(len(set(bound)), len(bound), name)
            for node in ast.walk(ast.parse(text)):
                if isinstance(node, ast.arg):
                    self.assertNotIn(node.arg, taken, (name, node.lineno))
                if isinstance(node, ast.Name) and isinstance(node.ctx, ast.Store):
                    self.assertNotIn(node.id, taken, (name, node.lineno))

    def test_no_two_files_import_from_each_other(self):
        imports = {}
        for name, text in files():
            found = [node for node in ast.parse(text).body if isinstance(node, ast.ImportFrom)]
            imports[name[:-3]] = [node.module.split(".")[1] for node in found if "." in node.module]
        left = dict(imports)
        while left:
            free = [name for name in left if not [one for one in left[name] if one in left]]
            self.assertNotEqual(free, [], sorted(left))
            for name in free:
                del left[name]

    def test_every_import_is_used_and_names_its_file(self):
        bodies = {name[:-3]: ast.parse(text).body for name, text in files()}
        for name, text in files():
            words = [node.id for node in ast.walk(ast.parse(text)) if isinstance(node, ast.Name)]
            for node in ast.parse(text).body:
                if isinstance(node, ast.ImportFrom):
                    for one in node.names:
                        self.assertIn(one.name, words, name)
                    if node.module.startswith("allcoursesfit."):
                        defined = []
                        for other in bodies[node.module.split(".")[1]]:
                            if isinstance(other, (ast.FunctionDef, ast.ClassDef)):
                                defined.append(other.name)
                            if isinstance(other, ast.Assign):
                                defined += [target.id for target in other.targets]
                        for one in node.names:
                            self.assertIn(one.name, defined, name)

    def test_finally_puts_back_alone(self):
        for name, text in files():
            for node in ast.walk(ast.parse(text)):
                if isinstance(node, ast.Try):
                    for part in node.finalbody:
                        for one in ast.walk(part):
                            self.assertNotIsInstance(one, (ast.Call, ast.Raise, ast.Return, ast.Subscript), name)


if __name__ == "__main__":
    unittest.main()
