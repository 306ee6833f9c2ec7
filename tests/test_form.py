"""The form of the package's files, and the names and arguments of the interface."""

import ast
import importlib
import inspect
import pathlib
import unittest

from tests.interface import CLASSES, FUNCTIONS

PACKAGE = pathlib.Path(__file__).resolve().parent.parent / "fewserve"
FILES = sorted(path for path in PACKAGE.iterdir() if path.name != "__pycache__")
TREES = {path.name: ast.parse(path.read_text("utf-8")) for path in FILES}
BUILTINS = set(dir(__builtins__) if not isinstance(__builtins__, dict) else __builtins__)
# What the rules allow of Python's builtins.
ALLOWED = set(
    "len range enumerate zip min max sum abs sorted reversed int str bool list tuple dict set frozenset isinstance"
    " ord repr any all divmod iter next map super property classmethod staticmethod NotImplemented Exception"
    " ValueError TypeError KeyError IndexError LookupError ZeroDivisionError ArithmeticError OverflowError"
    " RuntimeError NotImplementedError AttributeError StopIteration".split()
)
# What is iterated where it stands.
ITERATED = {"range", "zip", "enumerate", "reversed"}
TAKERS = {"list", "tuple", "dict", "sorted", "sum", "any", "all", "enumerate", "zip", "reversed", "len", "min", "max"}


def walk(kind):
    """Yield the file name and the node for all nodes of that kind."""
    for name, tree in TREES.items():
        for node in ast.walk(tree):
            if isinstance(node, kind):
                yield name, node


def parents(tree):
    return {child: node for node in ast.walk(tree) for child in ast.iter_child_nodes(node)}


def is_property(node):
    return any(isinstance(sign, ast.Name) and sign.id == "property" for sign in node.decorator_list)


def operators():
    """Yield the file name and the method for all operators, properties and their kin."""
    for name, node in walk(ast.ClassDef):
        for method in node.body:
            if isinstance(method, ast.FunctionDef):
                signed = method.name.startswith("__") and method.name not in ("__init__", "__call__")
                if signed or is_property(method):
                    yield name, method


def called_functions(node):
    """Yield what the calls in the function may run: everything of the package that has the name."""
    names = set()
    for call in ast.walk(node):
        if isinstance(call, ast.Call):
            names.add(call.func.id if isinstance(call.func, ast.Name) else getattr(call.func, "attr", None))
    for name, tree in TREES.items():
        for found in ast.walk(tree):
            if isinstance(found, ast.FunctionDef) and found.name in names:
                yield name, found
            if isinstance(found, ast.ClassDef) and found.name in names:
                for method in found.body:
                    if isinstance(method, ast.FunctionDef) and method.name == "__init__":
                        yield name, method


def reached_by_operators():
    """Return the places and nodes of all functions that an operator or a property may run."""
    waiting = list(operators())
    found = {}
    while waiting:
        name, node = waiting.pop()
        if (name, node.lineno) not in found:
            found[name, node.lineno] = node
            waiting += called_functions(node)
    return found


class Form(unittest.TestCase):
    def test_files(self):
        for path in FILES:
            self.assertTrue(path.is_file() and path.suffix == ".py", path)
            text = path.read_text("utf-8")
            lines = text.split("\n")
            self.assertLessEqual(len(lines), 399, path)
            self.assertLessEqual(max(len(line) for line in lines), 120, path)
            self.assertTrue(all(" " <= sign <= "~" or sign == "\n" for sign in text), path)

    def test_module_level(self):
        for name, tree in TREES.items():
            for node in tree.body:
                plain = (ast.ImportFrom, ast.FunctionDef, ast.ClassDef, ast.Assign)
                docstring = isinstance(node, ast.Expr) and isinstance(node.value, ast.Constant)
                self.assertTrue(isinstance(node, plain) or docstring, (name, node.lineno))

    def test_imports(self):
        for name, node in walk(ast.ImportFrom):
            self.assertTrue(node.module.startswith("fewserve.") and node.level == 0, (name, node.lineno))
            tree = TREES[node.module.split(".")[1] + ".py"]
            own = [n.name for n in tree.body if isinstance(n, (ast.FunctionDef, ast.ClassDef))]
            own += [n.targets[0].id for n in tree.body if isinstance(n, ast.Assign)]
            for alias in node.names:
                self.assertIsNone(alias.asname)
                self.assertIn(alias.name, own, (name, node.lineno))
        self.assertEqual([where for where in walk(ast.Import)], [])

    def test_sizes_of_functions(self):
        for name, node in walk(ast.FunctionDef):
            self.assertLessEqual(node.end_lineno - node.lineno + 1, 40, (name, node.name))

    def test_barred_statements_and_expressions(self):
        barred = (ast.AsyncFunctionDef, ast.Await, ast.Div, ast.MatMult, ast.TryStar)
        self.assertEqual([(name, ast.dump(node)) for name, node in walk(barred)], [])

    def test_lists_where_a_class_compares(self):
        # As Wedge has __eq__, these take a list and no generator expression.
        for name, node in walk(ast.Call):
            if isinstance(node.func, ast.Name) and node.func.id in ("any", "all", "min", "max", "sum", "sorted"):
                for argument in node.args:
                    self.assertNotIsInstance(argument, ast.GeneratorExp, (name, node.lineno))

    def test_builtins(self):
        for name, node in walk(ast.Name):
            if node.id in BUILTINS:
                self.assertIsInstance(node.ctx, ast.Load, (name, node.lineno))
                self.assertIn(node.id, ALLOWED, (name, node.lineno))
        for name, node in walk((ast.arg, ast.FunctionDef, ast.ClassDef)):
            own = node.arg if isinstance(node, ast.arg) else node.name
            self.assertNotIn(own, BUILTINS, (name, node.lineno))

    def test_names_of_imports_and_classes_are_not_used_again(self):
        for name, tree in TREES.items():
            taken = {alias.name for n in tree.body if isinstance(n, ast.ImportFrom) for alias in n.names}
            taken |= {n.name for n in tree.body if isinstance(n, ast.ClassDef)}
            for node in ast.walk(tree):
                stored = isinstance(node, ast.Name) and isinstance(node.ctx, ast.Store) and node.id
                stored = stored or isinstance(node, ast.arg) and node.arg
                self.assertNotIn(stored, taken, (name, getattr(node, "lineno", 0)))

    def test_what_is_iterated_where_it_stands(self):
        for name, tree in TREES.items():
            above = parents(tree)
            for node in ast.walk(tree):
                if isinstance(node, ast.Call) and isinstance(node.func, ast.Name) and node.func.id in ITERATED:
                    place = above[node]
                    looped = isinstance(place, (ast.For, ast.comprehension)) and place.iter is node
                    taken = isinstance(place, ast.Call) and (
                        isinstance(place.func, ast.Name) and place.func.id in TAKERS
                        or isinstance(place.func, ast.Attribute) and place.func.attr == "join"
                    )
                    self.assertTrue(looped or taken, (name, node.lineno))

    def test_operators_reach_no_generators_and_set_no_attributes(self):
        found = reached_by_operators()
        self.assertGreater(len(found), 30)
        for where, node in found.items():
            for part in ast.walk(node):
                self.assertNotIsInstance(part, (ast.Yield, ast.YieldFrom, ast.Nonlocal, ast.Delete), where)
                if isinstance(part, ast.Attribute) and isinstance(part.ctx, ast.Store):
                    self.assertEqual(node.name, "__init__", where)
                if isinstance(part, ast.Subscript) and isinstance(part.ctx, ast.Store):
                    self.assertIsInstance(part.value, ast.Name, where)

    def test_generators_have_names_of_their_own(self):
        made = [node for _, node in walk(ast.FunctionDef) if any(isinstance(n, ast.Yield) for n in ast.walk(node))]
        names = [node.name for _, node in walk(ast.FunctionDef)]
        for node in made:
            self.assertEqual(names.count(node.name), 1, node.name)

    def test_identity_is_asked_of_none_only(self):
        for name, node in walk(ast.Compare):
            for sign, right in zip(node.ops, node.comparators):
                if isinstance(sign, (ast.Is, ast.IsNot)):
                    self.assertIsInstance(right, ast.Constant, (name, node.lineno))


class Interface(unittest.TestCase):
    def test_functions(self):
        for module, functions in FUNCTIONS.items():
            for name, arguments in functions.items():
                found = getattr(importlib.import_module("fewserve." + module), name)
                self.assertEqual(found.__module__, "fewserve." + module, name)
                self.assertEqual(str(inspect.signature(found)), arguments, name)

    def test_classes(self):
        for module, classes in CLASSES.items():
            for name, methods in classes.items():
                found = getattr(importlib.import_module("fewserve." + module), name)
                self.assertEqual(found.__module__, "fewserve." + module, name)
                for method, arguments in methods.items():
                    self.assertIn(method, vars(found), (name, method))
                    if arguments is not None:
                        told = str(inspect.signature(vars(found)[method]))
                        self.assertEqual(told, arguments, (name, method))


if __name__ == "__main__":
    unittest.main()
