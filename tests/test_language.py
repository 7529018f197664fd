"""The rules of ../shared/LANGUAGE.md that can be asked of each file by itself, and the forms of imports."""

import ast
import builtins
import re
import unittest
from pathlib import Path

PACKAGE = Path(__file__).resolve().parent.parent / "promisedesk"

BUILTINS = set("""len range enumerate zip map min max sum abs sorted reversed int str bool bytes list tuple dict set
    isinstance ord repr any all divmod pow iter next getattr hasattr setattr type super property staticmethod classmethod
    Exception ValueError TypeError KeyError IndexError LookupError ZeroDivisionError ArithmeticError OverflowError
    RuntimeError NotImplementedError AttributeError StopIteration NotImplemented""".split())

METHODS = set("""append clear copy count endswith extend find get index insert isalnum isalpha isdigit islower isspace
    isupper items join keys ljust lower lstrip partition pop remove replace reverse rfind rjust rpartition rsplit rstrip
    setdefault split splitlines startswith strip update upper values zfill bit_length add discard sort isascii isdecimal
    removeprefix removesuffix rindex appendleft popleft extendleft __init__""".split())

BARRED = set("mro elements open input law version_info with_traceback add_note register".split())

LIBRARY = {"heapq": {"heappush", "heappop", "heapify", "heapreplace", "heappushpop"},
           "math": {"gcd", "lcm", "isqrt", "comb", "perm", "factorial"},
           "itertools": {"product", "combinations", "permutations", "chain", "accumulate", "pairwise", "islice",
                         "zip_longest"},
           "collections": {"defaultdict", "deque"}}

STATEMENTS = (ast.Assign, ast.FunctionDef, ast.ClassDef, ast.ImportFrom, ast.Expr)


def files():
    return sorted(path for path in PACKAGE.rglob("*") if path.is_file() and "__pycache__" not in path.parts)


def trees():
    return [(path, ast.parse(path.read_text(encoding="utf-8"))) for path in files()]


def nodes(*kinds):
    return [(path.name, node) for path, tree in trees() for node in ast.walk(tree) if isinstance(node, kinds)]


def defined(tree):
    found = [node.name for node in tree.body if isinstance(node, (ast.FunctionDef, ast.ClassDef))]
    return found + [node.targets[0].id for node in tree.body if isinstance(node, ast.Assign)]


class LanguageTest(unittest.TestCase):

    def test_files(self):
        for path in files():
            self.assertRegex(path.name, r"^[a-z0-9_]+\.py$")
        self.assertIn(PACKAGE / "__init__.py", files())
        self.assertLessEqual(len(files()), 100)

    def test_lines_and_characters(self):
        for path in files():
            text = path.read_bytes().decode("ascii")
            lines = text.split("\n")
            self.assertLessEqual(len(lines) - 1, 399, path)
            self.assertLessEqual(max(len(line) for line in lines), 120, path)
            self.assertRegex(text, r"\A[ -~\n]*\Z", path)
            self.assertTrue(text.endswith("\n"), path)

    def test_functions_are_small(self):
        for name, node in nodes(ast.FunctionDef):
            self.assertLessEqual(node.end_lineno - node.lineno + 1, 40, (name, node.name))

    def test_module_level(self):
        for path, tree in trees():
            for node in tree.body:
                self.assertIsInstance(node, STATEMENTS, (path.name, node.lineno))
            self.assertIsNotNone(ast.get_docstring(tree), path.name)
            found = defined(tree)
            self.assertEqual(len(set(found)), len(found), path.name)

    def test_imports(self):
        made = {f"promisedesk.{path.stem}": defined(tree) for path, tree in trees()}
        for name, node in nodes(ast.Import, ast.ImportFrom):
            self.assertIsInstance(node, ast.ImportFrom, (name, node.lineno))
            known = made.get(node.module) or LIBRARY.get(node.module, ())
            for one in node.names:
                self.assertIn(one.name, known, (name, node.lineno))
                self.assertIsNone(one.asname, (name, node.lineno))

    def test_imports_are_used(self):
        for path, tree in trees():
            used = {node.id for node in ast.walk(tree) if isinstance(node, ast.Name)}
            for node in ast.walk(tree):
                for one in node.names if isinstance(node, ast.ImportFrom) else ():
                    self.assertIn(one.name, used, path.name)

    def test_no_file_imports_itself_by_others(self):
        ahead = {f"promisedesk.{path.stem}": {node.module for node in tree.body if isinstance(node, ast.ImportFrom)}
                 for path, tree in trees()}
        while ahead:
            first = [name for name in ahead if not ahead[name] & set(ahead)]
            self.assertTrue(first, f"among {sorted(ahead)}")
            for name in first:
                del ahead[name]

    def test_builtins(self):
        for name, node in nodes(ast.Name):
            if hasattr(builtins, node.id):
                self.assertIn(node.id, BUILTINS, (name, node.lineno))
                self.assertIsInstance(node.ctx, ast.Load, (name, node.lineno))
        for name, node in nodes(ast.arg):
            self.assertFalse(hasattr(builtins, node.arg), (name, node.lineno))

    def test_methods(self):
        own = {node.name for _, node in nodes(ast.FunctionDef)}
        for name, node in nodes(ast.Call):
            if isinstance(node.func, ast.Attribute):
                self.assertIn(node.func.attr, METHODS | own, (name, node.lineno))

    def test_barred_names(self):
        for name, node in nodes(ast.Name, ast.Attribute, ast.arg, ast.FunctionDef, ast.ClassDef, ast.keyword):
            said = [getattr(node, part, None) for part in ("id", "attr", "arg", "name")]
            self.assertFalse(BARRED & set(said), (name, node.lineno))

    def test_decorators(self):
        for name, node in nodes(ast.FunctionDef, ast.ClassDef):
            for one in node.decorator_list:
                self.assertIn(ast.unparse(one), ("property", "staticmethod", "classmethod"), (name, node.lineno))

    def test_expressions_that_are_not_allowed(self):
        barred = (ast.Div, ast.Global, ast.AsyncFunctionDef, ast.Await, ast.TryStar)
        self.assertEqual([name for name, _ in nodes(*barred)], [])
        for name, node in nodes(ast.Constant):
            self.assertNotIsInstance(node.value, (float, complex), (name, node.lineno))
            if isinstance(node.value, str):
                self.assertNotIn("%", node.value, (name, node.lineno))

    def test_no_generators(self):
        # The classes that compare would want lists in most places; so there are lists everywhere.
        barred = (ast.GeneratorExp, ast.Yield, ast.YieldFrom)
        self.assertEqual([name for name, _ in nodes(*barred)], [])

    def test_sets_are_written_where_they_are_used(self):
        for name, node in nodes(ast.Assign, ast.Return, ast.For, ast.comprehension, ast.List, ast.Tuple, ast.Dict):
            parts = [getattr(node, part, None) for part in ("value", "iter")] + list(getattr(node, "elts", ()))
            for part in parts:
                text = ast.unparse(part) if isinstance(part, ast.AST) else ""
                self.assertFalse(isinstance(part, (ast.Set, ast.SetComp)) or text.startswith("set("), (name, text))

    def test_errors_are_own_ones(self):
        made = {node.name for name, node in nodes(ast.ClassDef) if name == "errors.py"}
        for name, node in nodes(ast.ExceptHandler):
            self.assertIn(ast.unparse(node.type), made, (name, node.lineno))
        for name, node in nodes(ast.Raise):
            self.assertIsInstance(node.exc, ast.Call, (name, node.lineno))
            self.assertIn(ast.unparse(node.exc.func), made - {"DeskError"}, (name, node.lineno))

    def test_words_that_stand_in_no_file(self):
        for path in files():
            self.assertNotRegex(path.read_text(encoding="ascii"), r"\b(type|typing|enum|Enum|Generic|Protocol|ABC)\b", path)

    def test_is_with_none_and_truths_alone(self):
        for name, node in nodes(ast.Compare):
            for sign, right in zip(node.ops, node.comparators):
                if isinstance(sign, (ast.Is, ast.IsNot)):
                    self.assertTrue(re.fullmatch("None|True|False", ast.unparse(right)), (name, node.lineno))


if __name__ == "__main__":
    unittest.main()
