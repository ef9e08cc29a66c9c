"""The remarks at the head of the interface: names stand where the interface lists them."""

import ast
import importlib
import inspect
import pathlib
import unittest

from momentrows.places import Place
from momentrows.polys import Poly
from momentrows.ratios import Ratio
from tests.samples import ERROR_FIELDS

PACKAGE = pathlib.Path(__file__).resolve().parent.parent / "momentrows"

METHODS = {
    ("ratios", "Ratio"): {
        "__init__": ["top", "bottom"], "over": ["other"], "power": ["k"], "text": [],
        "__add__": ["other"], "__radd__": ["other"], "__sub__": ["other"], "__rsub__": ["other"],
        "__mul__": ["other"], "__rmul__": ["other"], "__floordiv__": ["other"], "__rfloordiv__": ["other"],
        "__mod__": ["other"], "__rmod__": ["other"], "__pow__": ["other"], "__neg__": [], "__abs__": [],
        "__eq__": ["other"], "__ne__": ["other"], "__lt__": ["other"], "__le__": ["other"],
        "__gt__": ["other"], "__ge__": ["other"],
    },
    ("polys", "Poly"): {
        "__init__": ["coefficients"], "__call__": ["x"], "power": ["k"], "derivative": [], "monic": [],
        "moved": ["by"],
        "__add__": ["other"], "__radd__": ["other"], "__sub__": ["other"], "__rsub__": ["other"],
        "__mul__": ["other"], "__rmul__": ["other"], "__floordiv__": ["other"], "__mod__": ["other"],
        "__pow__": ["other"], "__neg__": [], "__eq__": ["other"],
    },
    ("places", "Place"): {
        "__init__": ["low", "high"], "__contains__": ["x"], "__eq__": ["other"], "is_line": [], "is_segment": [],
        "moved": ["by"], "stretched": ["by"], "all_factors": [], "factors": ["parity"],
    },
}
# The parameters of the functions; those behind the * are passed by name only.
FUNCTIONS = {
    ("polys", "common"): ["p", "q"],
    ("roots", "roots_in"): ["p", "low", "high"],
    ("roots", "roots_after"): ["p", "low", "high"],
    ("roots", "isolated"): ["p", "*", "width"],
    ("roots", "is_never_below"): ["p", "place"],
    ("roots", "below_at"): ["p", "place"],
    ("rows", "mean"): ["row", "p"],
    ("rows", "moved_row"): ["row", "by"],
    ("rows", "scaled_row"): ["row", "by"],
    ("rows", "shifted_row"): ["row", "p"],
    ("rows", "mixed_row"): ["one", "other", "*", "share"],
    ("rows", "sum_row"): ["one", "other"],
    ("rows", "product_row"): ["one", "other"],
    ("steps", "steps"): ["row", "place"],
    ("steps", "kind"): ["row", "place"],
}
DEFINED = [("errors", name) for name in ("MeansError", *ERROR_FIELDS)] + [*METHODS, *FUNCTIONS]


class Interface(unittest.TestCase):

    def test_names_are_defined_in_their_own_files(self):
        for module, name in DEFINED:
            tree = ast.parse((PACKAGE / f"{module}.py").read_text())
            found = [part.name for part in tree.body if isinstance(part, (ast.FunctionDef, ast.ClassDef))]
            self.assertEqual(found.count(name), 1, name)
            self.assertTrue(hasattr(importlib.import_module(f"momentrows.{module}"), name))

    def test_methods_stand_in_the_class_itself(self):
        for (module, name), methods in METHODS.items():
            owner = getattr(importlib.import_module(f"momentrows.{module}"), name)
            for method, parameters in methods.items():
                self.assertIn(method, vars(owner), name)
                found = list(inspect.signature(vars(owner)[method]).parameters)
                self.assertEqual(found, ["self", *parameters], f"{name}.{method}")

    def test_read_is_static(self):
        self.assertIsInstance(vars(Ratio)["read"], staticmethod)
        self.assertEqual(list(inspect.signature(Ratio.read).parameters), ["text"])
        self.assertEqual(Ratio(5).read("1/2"), Ratio(1, 2))

    def test_parameters_of_functions(self):
        for (module, name), wanted in FUNCTIONS.items():
            found = []
            function = getattr(importlib.import_module(f"momentrows.{module}"), name)
            for part in inspect.signature(function).parameters.values():
                if part.kind is part.KEYWORD_ONLY:
                    found.append("*")
                found.append(part.name)
                self.assertIs(part.default, part.empty)
            self.assertEqual(found, wanted, name)

    def test_the_ends_of_a_place_may_be_left_out(self):
        parts = inspect.signature(Place).parameters
        self.assertEqual([part.default for part in parts.values()], [None, None])

    def test_attributes_are_set_when_an_object_is_created(self):
        for number in (Ratio(0), Ratio(3, -6), Ratio.read("1/7")):
            self.assertLessEqual({"top", "bottom"}, set(vars(number)))
        for p in (Poly([]), Poly([0]), Poly((1, 2)), Poly([1]) * 0):
            self.assertLessEqual({"coefficients", "degree", "lead"}, set(vars(p)))
        for where in (Place(), Place(0), Place(0, 1), Place(0).moved(1), Place().stretched(2)):
            self.assertLessEqual({"low", "high"}, set(vars(where)))


if __name__ == "__main__":
    unittest.main()
