"""The rules of form that are easily seen from outside."""

import ast
import pathlib
import re
import unittest

PACKAGE = pathlib.Path(__file__).resolve().parent.parent / "unknownkinds"
FILES = sorted(path for path in PACKAGE.rglob("*") if "__pycache__" not in path.parts)
BARRED = (
    ast.With, ast.Match, ast.Delete, ast.Global, ast.Nonlocal, ast.Assert, ast.Yield, ast.YieldFrom,
    ast.AsyncFunctionDef, ast.Await, ast.Div, ast.Set, ast.SetComp, ast.DictComp, ast.GeneratorExp,
    ast.NamedExpr, ast.Starred, ast.AnnAssign,
)
PYTHONS_OWN = (
    "len", "range", "enumerate", "zip", "min", "max", "sum", "abs", "sorted", "reversed", "int", "str", "bool",
    "list", "tuple", "dict", "set", "frozenset", "isinstance", "ord", "repr", "any", "all", "divmod",
)

METHODS = (
    "append", "clear", "copy", "count", "endswith", "extend", "find", "get", "index", "insert", "items", "join", "keys",
    "pop", "remove", "replace", "reverse", "setdefault", "split", "startswith", "update", "values", "bit_length",
)
BARRED_WORDS = (
    "type", "typing", "typing_extensions", "enum", "Enum", "IntEnum", "StrEnum", "Flag", "IntFlag", "Generic",
    "Protocol", "ABC", "ABCMeta", "namedtuple", "NamedTuple", "TypedDict", "TYPE_CHECKING", "abstractmethod",
)


class FormTest(unittest.TestCase):
    def test_only_python_files_with_plain_names(self):
        self.assertIn(PACKAGE / "__init__.py", FILES)
        self.assertIn(PACKAGE / "house.py", FILES)
        for path in FILES:
            self.assertEqual(path.suffix, ".py", path)

    def test_size_and_signs(self):
        for path in FILES:
            text = path.read_bytes()
            self.assertTrue(all(sign == 10 or 32 <= sign <= 126 for sign in text), path)
            rows = text.decode().split("\n")
            self.assertLessEqual(len(rows), 400, path)
            self.assertLessEqual(max(len(row) for row in rows), 120, path)

    def test_statements_and_expressions(self):
        for path in FILES:
            for node in ast.walk(ast.parse(path.read_text())):
                self.assertNotIsInstance(node, BARRED, path)
                if isinstance(node, ast.FunctionDef):
                    self.assertLessEqual(node.end_lineno - node.lineno + 1, 40, node.name)
                    self.assertEqual(node.decorator_list, [])
                if isinstance(node, ast.Assign):
                    self.assertEqual(len(node.targets), 1)

    def test_the_package_imports_nothing_but_its_own(self):
        for path in FILES:
            for node in ast.walk(ast.parse(path.read_text())):
                self.assertNotIsInstance(node, ast.Import, path)
                if isinstance(node, ast.ImportFrom):
                    self.assertTrue(node.level == 0 and node.module.startswith("unknownkinds."), path)

    def test_every_name_called_is_the_programs_or_allowed(self):
        for path in FILES:
            tree = ast.parse(path.read_text())
            own = {node.name for node in tree.body if isinstance(node, (ast.FunctionDef, ast.ClassDef))}
            for node in tree.body:
                if isinstance(node, ast.ImportFrom):
                    own.update(name.name for name in node.names)
            for node in ast.walk(tree):
                if isinstance(node, ast.Call) and isinstance(node.func, ast.Name):
                    self.assertIn(node.func.id, own | set(PYTHONS_OWN), path)

    def test_every_method_called_is_the_programs_or_allowed(self):
        trees = [ast.parse(path.read_text()) for path in FILES]
        nodes = [node for tree in trees for node in ast.walk(tree)]
        classes = [node for node in nodes if isinstance(node, ast.ClassDef)]
        own = {part.name for node in classes for part in node.body if isinstance(part, ast.FunctionDef)}
        for node in nodes:
            if isinstance(node, ast.Call) and isinstance(node.func, ast.Attribute):
                self.assertIn(node.func.attr, own | set(METHODS))

    def test_a_comprehension_has_one_for_and_at_most_one_if(self):
        for path in FILES:
            for node in ast.walk(ast.parse(path.read_text())):
                if isinstance(node, ast.ListComp):
                    self.assertEqual(len(node.generators), 1, path)
                    self.assertLessEqual(len(node.generators[0].ifs), 1, path)

    def test_words_that_stand_nowhere(self):
        for path in FILES:
            words = set(re.findall(r"\w+", path.read_text()))
            self.assertEqual(words & set(BARRED_WORDS), set(), path)
            for node in ast.walk(ast.parse(path.read_text())):
                if isinstance(node, ast.Name):
                    self.assertFalse(node.id.startswith("_"), node.id)


if __name__ == "__main__":
    unittest.main()
