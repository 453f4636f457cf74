"""The package's own files keep to the part of Python that the program is written in, as far as a look can tell."""

import ast
import builtins
import re
import unittest
from pathlib import Path

PACKAGE = Path(__file__).resolve().parent.parent / "wordsheard"

NODES = (
    ast.Module, ast.FunctionDef, ast.ClassDef, ast.ImportFrom, ast.alias, ast.arguments, ast.arg, ast.Return,
    ast.Assign, ast.AugAssign, ast.For, ast.While, ast.If, ast.Break, ast.Continue, ast.Pass, ast.Raise, ast.Try,
    ast.ExceptHandler, ast.Expr, ast.BoolOp, ast.BinOp, ast.UnaryOp, ast.Lambda, ast.IfExp, ast.Dict, ast.ListComp,
    ast.comprehension, ast.Compare, ast.Call, ast.keyword, ast.Constant, ast.Attribute, ast.Subscript, ast.Slice,
    ast.Name, ast.List, ast.Tuple, ast.expr_context, ast.boolop, ast.operator, ast.unaryop, ast.cmpop,
)

PYTHONS_OWN = """len range enumerate zip min max sum abs sorted reversed int str bool list tuple dict set isinstance ord
    repr any all divmod""".split()

METHODS = """append clear copy count endswith extend find get index insert isalnum isalpha isdigit islower isspace
    isupper items join keys ljust lower lstrip partition pop remove replace reverse rfind rjust rpartition rsplit rstrip
    setdefault split splitlines startswith strip update upper values zfill bit_length""".split()

WORDS_NOT_USED = r"\b(type|typing|typing_extensions|enum|Enum|Flag|Generic|Protocol|ABC|NamedTuple|namedtuple)\b"


def package_files():
    return sorted(PACKAGE.glob("*.py"))


def read_files():
    """Each file's name, its text, and its text taken apart."""
    texts = [(path.name, path.read_text(encoding="utf-8")) for path in package_files()]
    return [(name, text, ast.parse(text)) for name, text in texts]


def bound_names(tree):
    """Every name that is given a value, as a parameter, a local, a def or an import."""
    found = []
    for node in ast.walk(tree):
        if isinstance(node, ast.Name) and isinstance(node.ctx, ast.Store):
            found.append(node.id)
        elif isinstance(node, ast.arg):
            found.append(node.arg)
        elif isinstance(node, (ast.FunctionDef, ast.ClassDef)):
            found.append(node.name)
        elif isinstance(node, ast.alias):
            found.append(node.asname or node.name)
    return found


class Form(unittest.TestCase):
    def test_the_files_are_found(self):
        self.assertIn("laboratory.py", [name for name, text, tree in read_files()])

    def test_nothing_else_lies_in_the_package(self):
        others = [path.name for path in PACKAGE.iterdir() if path.suffix != ".py" and path.name != "__pycache__"]
        self.assertEqual(others, [])

    def test_signs_and_sizes(self):
        for name, text, tree in read_files():
            with self.subTest(file=name):
                self.assertEqual([sign for sign in text if sign != "\n" and not " " <= sign <= "~"], [])
                self.assertLessEqual(len(text.splitlines()), 400)
                self.assertLessEqual(max(len(row) for row in text.splitlines()), 120)
                for node in ast.walk(tree):
                    if isinstance(node, ast.FunctionDef):
                        self.assertLessEqual(node.end_lineno - node.lineno + 1, 40, node.name)

    def test_statements_and_expressions(self):
        for name, text, tree in read_files():
            with self.subTest(file=name):
                for node in ast.walk(tree):
                    self.assertIsInstance(node, NODES)
                    self.assertNotIsInstance(node, (ast.Div, ast.MatMult))
                    if isinstance(node, ast.BinOp) and isinstance(node.op, ast.Pow):
                        self.assertIsInstance(node.right, ast.Constant)
                    if isinstance(node, ast.Compare) and isinstance(node.ops[0], (ast.Is, ast.IsNot)):
                        self.assertIn(ast.unparse(node.comparators[0]), ("None", "True", "False"))
                    if isinstance(node, ast.Assign):
                        self.assertEqual(len(node.targets), 1)
                        self.assertNotIsInstance(node.targets[0], (ast.Tuple, ast.List))
                    if isinstance(node, ast.ListComp):
                        self.assertEqual(len(node.generators), 1)
                        self.assertLessEqual(len(node.generators[0].ifs), 1)
                    if isinstance(node, (ast.For, ast.While)):
                        self.assertEqual(node.orelse, [])
                    if isinstance(node, ast.FunctionDef):
                        self.assertEqual(node.decorator_list, [])
                        self.assertIsNone(node.args.vararg or node.args.kwarg)
                    if isinstance(node, ast.Constant) and isinstance(node.value, str):
                        self.assertNotIn("%", node.value)

    def test_names(self):
        for name, text, tree in read_files():
            with self.subTest(file=name):
                self.assertIsNone(re.search(WORDS_NOT_USED, text))
                names = bound_names(tree)
                for bound in names:
                    if bound != "__init__":
                        self.assertFalse(bound.startswith("_") or hasattr(builtins, bound), bound)
                for node in ast.walk(tree):
                    if isinstance(node, ast.Name):
                        self.assertIn(node.id, names + PYTHONS_OWN)

    def test_locals_do_not_hide_what_stands_at_the_top(self):
        for name, text, tree in read_files():
            with self.subTest(file=name):
                top = bound_names(ast.Module([node for node in tree.body if isinstance(node, ast.ImportFrom)], []))
                top += [node.name for node in tree.body if isinstance(node, (ast.FunctionDef, ast.ClassDef))]
                self.assertEqual(len(top), len(set(top)))
                for function in ast.walk(tree):
                    if isinstance(function, ast.FunctionDef):
                        inside = bound_names(function)[1:]
                        self.assertEqual([name for name in inside if name in top], [])

    def test_methods(self):
        for name, text, tree in read_files():
            with self.subTest(file=name):
                for node in ast.walk(tree):
                    if isinstance(node, ast.Call) and isinstance(node.func, ast.Attribute):
                        self.assertIn(node.func.attr, METHODS)

    def test_imports_come_from_the_package_alone_and_in_no_circle(self):
        drawn = {}
        for path in package_files():
            tree = ast.parse(path.read_text(encoding="utf-8"))
            rows = [node for node in ast.walk(tree) if isinstance(node, ast.ImportFrom)]
            self.assertEqual([node for node in rows if node.level], [])
            modules = [node.module for node in rows]
            self.assertTrue(all(name.startswith("wordsheard.") for name in modules), modules)
            drawn["wordsheard." + path.stem] = sorted(set(modules))
        self.assertEqual(drawn["wordsheard.__init__"], [])
        while drawn:
            free = [name for name in drawn if not any(other in drawn for other in drawn[name])]
            self.assertTrue(free, drawn)
            for name in free:
                del drawn[name]


if __name__ == "__main__":
    unittest.main()
