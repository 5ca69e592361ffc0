"""The package as a whole: its folder, its interface, and the sizes that its files keep."""

import ast
import inspect
import unittest
from importlib import import_module
from pathlib import Path

PACKAGE = Path(__file__).resolve().parent.parent / "fieldmaps"

# Each module with its functions and their parameters, as the document lists them.
FUNCTIONS = {
    "whole": {
        "is_integer": ["value"],
        "is_prime": ["n"],
        "prime_powers": ["n"],
        "divisors": ["n"],
        "common": ["numbers"],
        "cofactors": ["a", "b"],
        "power_modulo": ["a", "k", "m"],
        "inverse_modulo": ["a", "m"],
        "moebius": ["n"],
    },
    "linear": {
        "dot": ["field", "a", "b"],
        "combine": ["field", "rows", "width", "weights"],
        "reduced": ["field", "rows", "width"],
        "kernel": ["field", "rows", "width"],
        "solve": ["field", "rows", "width", "right"],
        "coordinates": ["field", "rows", "vector"],
        "determinant": ["field", "rows"],
    },
    "rows": {
        "trimmed": ["row", "p"],
        "add_rows": ["a", "b", "p"],
        "subtract_rows": ["a", "b", "p"],
        "multiply_rows": ["a", "b", "p"],
        "divide_rows": ["a", "b", "p"],
        "common_row": ["a", "b", "p"],
        "power_row": ["a", "k", "m", "p"],
        "is_irreducible_row": ["m", "p"],
    },
    "poly": {
        "constant": ["field", "a"],
        "monomial": ["field", "a", "k"],
        "variable": ["field"],
        "common_divisor": ["f", "g"],
        "cofactors": ["f", "g"],
    },
    "irreducible": {
        "is_irreducible": ["f"],
        "count_irreducible": ["q", "n"],
        "least_irreducible": ["field", "n"],
        "all_irreducible": ["field", "n"],
    },
    "factoring": {
        "is_squarefree": ["f"],
        "squarefree_parts": ["f"],
        "fixed_space": ["f"],
        "divided": ["f"],
        "factors": ["f"],
        "roots": ["f"],
    },
    "maps": {
        "all_maps": ["a", "b"],
        "isomorphisms": ["a", "b"],
        "power_map": ["field", "k"],
    },
    "subfields": {
        "subfield": ["field", "d"],
        "is_in_subfield": ["field", "a", "d"],
        "degree_of": ["field", "a"],
        "common_degree": ["field", "members"],
        "least_of_degree": ["field", "d"],
    },
    "conjugates": {
        "conjugates": ["field", "a", "d"],
        "least_polynomial": ["field", "a", "d"],
        "trace": ["field", "a", "d"],
        "norm": ["field", "a", "d"],
        "least_row": ["field", "a"],
        "is_normal": ["field", "a"],
        "least_normal": ["field"],
        "normal_members": ["field"],
    },
    "orders": {
        "order_of": ["field", "a"],
        "is_primitive": ["field", "a"],
        "least_primitive": ["field"],
        "all_primitive": ["field"],
        "members_of_order": ["field", "k"],
        "logarithm": ["field", "b", "a"],
        "is_power": ["field", "a", "k"],
        "roots_of": ["field", "a", "k"],
        "roots_of_unity": ["field", "k"],
        "square_root": ["field", "a"],
    },
    "recurrences": {
        "least_recurrence": ["field", "terms"],
        "order_of_x": ["f"],
    },
    "papers": {
        "irreducible_paper": ["f"],
        "factors_paper": ["f"],
        "maps_paper": ["a", "b"],
        "order_paper": ["field", "a"],
        "recurrence_paper": ["field", "terms"],
    },
    "checker": {
        "takes_irreducible": ["f", "paper"],
        "takes_factors": ["f", "paper"],
        "takes_maps": ["a", "b", "paper"],
        "takes_order": ["field", "a", "paper"],
        "takes_recurrence": ["field", "terms", "paper"],
    },
    "sheet": {
        "read_line": ["line"],
        "row_text": ["numbers"],
    },
    "replies": {
        "reply_to": ["fields", "line"],
        "defined": ["fields", "line"],
        "is_right": ["fields", "entry"],
        "first_wrong": ["entries"],
    },
}

# Each module with its classes, and the methods that stand in their bodies, with what they take behind self.
CLASSES = {
    "errors": {
        "Fault": {},
        "ZeroDivisor": {},
        "Malformed": {},
        "Refused": {"__init__": ["reason"]},
        "NoText": {"__init__": ["at"]},
    },
    "field": {
        "Field": {
            "__init__": ["p", "modulus"],
            "__eq__": ["other"],
            "is_member": ["value"],
            "zero": [],
            "one": [],
            "generator": [],
            "integer": ["k"],
            "add": ["a", "b"],
            "subtract": ["a", "b"],
            "negative": ["a"],
            "multiply": ["a", "b"],
            "inverse": ["a"],
            "divide": ["a", "b"],
            "power": ["a", "k"],
            "frobenius": ["a", "k"],
            "number": ["a"],
            "member": ["number"],
            "members": [],
            "written": ["a"],
            "read_member": ["text"],
        },
    },
    "poly": {
        "Poly": {
            "__init__": ["field", "row"],
            "__add__": ["other"],
            "__sub__": ["other"],
            "__mul__": ["other"],
            "__neg__": [],
            "__floordiv__": ["other"],
            "__mod__": ["other"],
            "__eq__": ["other"],
            "__call__": ["a"],
            "__str__": [],
            "degree": [],
            "is_zero": [],
            "leading": [],
            "coefficient": ["k"],
            "scaled": ["a"],
            "monic": [],
            "derivative": [],
            "power": ["k"],
            "power_modulo": ["k", "m"],
            "put": ["g"],
            "key": [],
        },
    },
    "maps": {
        "FieldMap": {
            "__init__": ["source", "target", "image"],
            "__call__": ["a"],
            "__eq__": ["other"],
            "after": ["g"],
            "inverse": [],
            "on_poly": ["p"],
        },
    },
    "recurrences": {
        "Recurrence": {
            "__init__": ["field", "multiples"],
            "__eq__": ["other"],
            "__len__": [],
            "polynomial": [],
            "terms": ["first", "count"],
            "term": ["first", "k"],
            "is_satisfied": ["row"],
            "least": ["first"],
            "period": ["first"],
        },
    },
    "console": {
        "Console": {
            "__init__": [],
            "__len__": [],
            "enter": ["line"],
            "entries": [],
            "fields": [],
        },
    },
}

# The default values that the document names: module, class or None, function, parameter, value.
DEFAULTS = (
    ("field", "Field", "__init__", "modulus", (0, 1)),
    ("field", "Field", "frobenius", "k", 1),
    ("maps", None, "power_map", "k", 1),
    ("conjugates", None, "conjugates", "d", 1),
    ("conjugates", None, "least_polynomial", "d", 1),
    ("conjugates", None, "trace", "d", 1),
    ("conjugates", None, "norm", "d", 1),
)

# The modules by chapters (point 0.1), each after those that it may import from.
ORDER = (
    "errors", "whole", "linear",
    "rows", "field", "poly",
    "irreducible", "factoring",
    "maps", "subfields", "conjugates",
    "orders",
    "recurrences",
    "papers", "checker",
    "sheet", "replies", "console",
)

# What may be imported from outside of the package.
LIBRARY = {"math": {"gcd", "lcm", "isqrt", "comb", "perm", "factorial"}}


def tree_of(path):
    return ast.parse(path.read_text(encoding="utf-8"))


def package_files():
    return sorted(PACKAGE.glob("*.py"))


def defined_in(module, kind):
    return {node.name for node in tree_of(PACKAGE / f"{module}.py").body if isinstance(node, kind)}


class TestFolder(unittest.TestCase):
    def test_it_holds_python_files_alone(self):
        others = [path.name for path in PACKAGE.iterdir() if path.suffix != ".py" and path.name != "__pycache__"]
        self.assertEqual(others, [])

    def test_init_defines_nothing(self):
        self.assertEqual(tree_of(PACKAGE / "__init__.py").body, [])


class TestInterface(unittest.TestCase):
    def test_functions_are_defined_in_their_files(self):
        for module, functions in FUNCTIONS.items():
            defined = defined_in(module, ast.FunctionDef)
            for name in functions:
                self.assertIn(name, defined, module)

    def test_functions_have_their_parameters(self):
        for module, functions in FUNCTIONS.items():
            for name, parameters in functions.items():
                function = getattr(import_module(f"fieldmaps.{module}"), name)
                self.assertEqual(list(inspect.signature(function).parameters), parameters, name)

    def test_classes_are_defined_in_their_files(self):
        for module, classes in CLASSES.items():
            defined = defined_in(module, ast.ClassDef)
            for name in classes:
                self.assertIn(name, defined, module)

    def test_methods_stand_in_the_bodies_of_their_classes(self):
        for module, classes in CLASSES.items():
            for name, methods in classes.items():
                body = vars(getattr(import_module(f"fieldmaps.{module}"), name))
                for method, parameters in methods.items():
                    self.assertIn(method, body, name)
                    self.assertEqual(list(inspect.signature(body[method]).parameters)[1:], parameters, method)

    def test_default_values(self):
        for module, owner, name, parameter, value in DEFAULTS:
            holder = import_module(f"fieldmaps.{module}")
            function = getattr(getattr(holder, owner) if owner else holder, name)
            self.assertEqual(inspect.signature(function).parameters[parameter].default, value, name)


class TestSizes(unittest.TestCase):
    def test_lines_and_characters(self):
        for path in package_files():
            text = path.read_bytes().decode("ascii")
            self.assertLessEqual(len(text.splitlines()), 399, path.name)
            for line in text.split("\n"):
                self.assertLessEqual(len(line), 120, path.name)
                self.assertTrue(all(" " <= sign <= "~" for sign in line), path.name)

    def test_functions(self):
        for path in package_files():
            for node in ast.walk(tree_of(path)):
                if isinstance(node, ast.FunctionDef):
                    self.assertLessEqual(node.end_lineno - node.lineno + 1, 40, f"{path.name} {node.name}")


class TestImports(unittest.TestCase):
    def test_only_from_the_package_and_the_allowed_library(self):
        for path in package_files():
            for node in ast.walk(tree_of(path)):
                self.assertNotIsInstance(node, ast.Import, path.name)
                if isinstance(node, ast.ImportFrom):
                    self.check_import(path.name, node)

    def test_only_from_modules_that_stand_before(self):
        self.assertEqual(sorted(ORDER), sorted(path.stem for path in package_files() if path.stem != "__init__"))
        for at, module in enumerate(ORDER):
            for node in tree_of(PACKAGE / f"{module}.py").body:
                if isinstance(node, ast.ImportFrom) and node.module.startswith("fieldmaps."):
                    self.assertIn(node.module.removeprefix("fieldmaps."), ORDER[:at], module)

    def check_import(self, file_name, node):
        names = {alias.name for alias in node.names}
        self.assertEqual(node.level, 0, file_name)
        self.assertEqual([alias.asname for alias in node.names], [None] * len(names), file_name)
        if node.module.startswith("fieldmaps."):
            module = node.module.removeprefix("fieldmaps.")
            defined = defined_in(module, (ast.FunctionDef, ast.ClassDef))
            self.assertLessEqual(names, defined, file_name)
        else:
            self.assertLessEqual(names, LIBRARY.get(node.module, set()), file_name)


if __name__ == "__main__":
    unittest.main()
