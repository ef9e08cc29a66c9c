"""The remarks at the head of the interface: names stand where the interface lists them."""

import ast
import importlib
import inspect
import pathlib
import unittest

from momentrows.polys import Poly
from momentrows.ratios import Ratio
from tests.samples import ERROR_FIELDS

PACKAGE = pathlib.Path(__file__).resolve().parent.parent / "momentrows"

METHODS = {
    ("ratios", "Ratio"): {
        "__init__": ["top", "bottom"], "over": ["other"], "power": ["k"], "text": [],
        "__add__": ["other"], "__radd__": ["other"], "__sub__": ["other"], "__rsub__": ["other"],
        "__mul__": ["other"], "__rmul__": ["other"], "__floordiv__": ["other"], "__rfloordiv__": ["other"],
        "__mod__": ["other"], "__rmod__": ["other"], "__pow__": ["other"], "__neg__": [], "__abs__": [],
        "__eq__": ["other"], "__ne__": ["other"], "__lt__": ["other"], "__le__": ["other"],
        "__gt__": ["other"], "__ge__": ["other"],
    },
    ("polys", "Poly"): {
        "__init__": ["coefficients"], "__call__": ["x"], "power": ["k"], "derivative": [], "monic": [],
        "moved": ["by"],
        "__add__": ["other"], "__radd__": ["other"], "__sub__": ["other"], "__rsub__": ["other"],
        "__mul__": ["other"], "__rmul__": ["other"], "__floordiv__": ["other"], "__mod__": ["other"],
        "__pow__": ["other"], "__neg__": [], "__eq__": ["other"],
    },
}
DEFINED = {
    "errors": ["MeansError", *ERROR_FIELDS],
    "ratios": ["Ratio"],
    "polys": ["Poly", "common"],
}


class Interface(unittest.TestCase):

    def test_names_are_defined_in_their_own_files(self):
        for module, names in DEFINED.items():
            tree = ast.parse((PACKAGE / f"{module}.py").read_text())
            found = [part.name for part in tree.body if isinstance(part, (ast.FunctionDef, ast.ClassDef))]
            for name in names:
                self.assertEqual(found.count(name), 1, name)
                self.assertTrue(hasattr(importlib.import_module(f"momentrows.{module}"), name))

    def test_methods_stand_in_the_class_itself(self):
        for (module, name), methods in METHODS.items():
            owner = getattr(importlib.import_module(f"momentrows.{module}"), name)
            for method, parameters in methods.items():
                self.assertIn(method, vars(owner), name)
                found = list(inspect.signature(vars(owner)[method]).parameters)
                self.assertEqual(found, ["self", *parameters], f"{name}.{method}")

    def test_read_is_static(self):
        self.assertIsInstance(vars(Ratio)["read"], staticmethod)
        self.assertEqual(list(inspect.signature(Ratio.read).parameters), ["text"])
        self.assertEqual(Ratio(5).read("1/2"), Ratio(1, 2))

    def test_common_takes_two_named_arguments(self):
        common = importlib.import_module("momentrows.polys").common
        self.assertEqual(list(inspect.signature(common).parameters), ["p", "q"])

    def test_attributes_are_set_when_an_object_is_created(self):
        for number in (Ratio(0), Ratio(3, -6), Ratio.read("1/7")):
            self.assertLessEqual({"top", "bottom"}, set(vars(number)))
        for p in (Poly([]), Poly([0]), Poly((1, 2)), Poly([1]) * 0):
            self.assertLessEqual({"coefficients", "degree", "lead"}, set(vars(p)))


if __name__ == "__main__":
    unittest.main()
