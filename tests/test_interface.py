"""The remarks at the head of the interface: names stand where the interface lists them."""

import ast
import importlib
import inspect
import pathlib
import unittest

from momentrows.deciding import Bar, bar_of, lot_of
from momentrows.live import Means
from momentrows.lots import Lot, lot_at
from momentrows.places import Place
from momentrows.polys import Poly
from momentrows.ratios import Ratio
from tests.samples import ERROR_FIELDS

PACKAGE = pathlib.Path(__file__).resolve().parent.parent / "momentrows"

METHODS = {
    ("ratios", "Ratio"): {
        "__init__": ["top", "bottom"], "over": ["other"], "power": ["k"], "text": [],
        "__add__": ["other"], "__radd__": ["other"], "__sub__": ["other"], "__rsub__": ["other"],
        "__mul__": ["other"], "__rmul__": ["other"], "__floordiv__": ["other"], "__rfloordiv__": ["other"],
        "__mod__": ["other"], "__rmod__": ["other"], "__pow__": ["other"], "__neg__": [], "__abs__": [],
        "__eq__": ["other"], "__ne__": ["other"], "__lt__": ["other"], "__le__": ["other"],
        "__gt__": ["other"], "__ge__": ["other"],
    },
    ("polys", "Poly"): {
        "__init__": ["coefficients"], "__call__": ["x"], "power": ["k"], "derivative": [], "monic": [],
        "moved": ["by"],
        "__add__": ["other"], "__radd__": ["other"], "__sub__": ["other"], "__rsub__": ["other"],
        "__mul__": ["other"], "__rmul__": ["other"], "__floordiv__": ["other"], "__mod__": ["other"],
        "__pow__": ["other"], "__neg__": [], "__eq__": ["other"],
    },
    ("places", "Place"): {
        "__init__": ["low", "high"], "__contains__": ["x"], "__eq__": ["other"], "is_line": [], "is_segment": [],
        "moved": ["by"], "stretched": ["by"], "all_factors": [], "factors": ["parity"],
    },
    ("lots", "Lot"): {
        "__init__": ["poly", "begin"], "__eq__": ["other"], "__add__": ["other"], "__mul__": ["other"], "row": ["d"],
        "mean": ["p"], "is_in": ["place"], "has": ["x"], "weight": ["x"], "near": ["*", "width"],
        "share": ["low", "high", "*", "width"], "moved": ["by"], "stretched": ["by"],
    },
    ("deciding", "Bar"): {"__init__": ["factor", "base", "other"], "product": []},
    ("live", "Means"): {
        "__init__": ["place"], "__iadd__": ["other"], "__getitem__": ["at"], "__setitem__": ["at", "worth"],
        "__len__": [], "put": ["m"], "put_all": ["numbers"], "row": [], "fits": [], "kind": [], "lot": [], "undo": [],
        "redo": [], "branch": [],
    },
}
# The parameters of the functions; those behind the * are passed by name only.
FUNCTIONS = {
    ("polys", "common"): ["p", "q"],
    ("roots", "roots_in"): ["p", "low", "high"],
    ("roots", "roots_after"): ["p", "low", "high"],
    ("roots", "isolated"): ["p", "*", "width"],
    ("roots", "is_never_below"): ["p", "place"],
    ("roots", "below_at"): ["p", "place"],
    ("rows", "mean"): ["row", "p"],
    ("rows", "moved_row"): ["row", "by"],
    ("rows", "scaled_row"): ["row", "by"],
    ("rows", "shifted_row"): ["row", "p"],
    ("rows", "mixed_row"): ["one", "other", "*", "share"],
    ("rows", "sum_row"): ["one", "other"],
    ("rows", "product_row"): ["one", "other"],
    ("steps", "steps"): ["row", "place"],
    ("steps", "kind"): ["row", "place"],
    ("lots", "lot_at"): ["points", "weights"],
    ("deciding", "has_lot"): ["row", "place"],
    ("deciding", "lot_of"): ["row", "place"],
    ("deciding", "fewest"): ["row", "place"],
    ("deciding", "check_lot"): ["row", "place", "lot"],
    ("deciding", "check_bar"): ["row", "place", "bar"],
    ("deciding", "bar_of"): ["row", "place"],
    ("further", "next_fits"): ["row", "place"],
    ("further", "longest"): ["row", "place"],
    ("further", "all_fits"): ["row", "place"],
    ("further", "mean_fits"): ["row", "place", "p"],
    ("further", "shares"): ["row", "place"],
    ("further", "row_from"): ["total", "parts", "place"],
    ("weights", "most_at"): ["row", "place", "x"],
    ("weights", "most_paper"): ["row", "place", "x"],
    ("weights", "with_point"): ["row", "place", "x", "weight"],
    ("weights", "extreme_lot"): ["row", "place", "x"],
    ("weights", "share_fits"): ["row", "place", "x", "*", "width"],
    ("principal", "lower_lot"): ["row", "place"],
    ("principal", "upper_lot"): ["row", "place"],
    ("principal", "is_shaped"): ["f", "k", "place"],
    ("principal", "shaped_fits"): ["row", "place", "f"],
    ("principal", "shaped_papers"): ["row", "place", "f"],
    ("principal", "alternate"): ["one", "other"],
    ("kin", "halved"): ["row"],
    ("kin", "doubled"): ["row"],
    ("kin", "centred"): ["row"],
    ("kin", "differences"): ["row"],
    ("texts", "row_text"): ["row"],
    ("texts", "place_text"): ["place"],
    ("texts", "poly_text"): ["p"],
    ("texts", "lot_text"): ["lot"],
    ("texts", "read_row"): ["text"],
    ("texts", "read_place"): ["text"],
    ("texts", "read_poly"): ["text"],
    ("texts", "read_lot"): ["text"],
}
DEFINED = [("errors", name) for name in ("MeansError", *ERROR_FIELDS)] + [*METHODS, *FUNCTIONS]


def parameters_of(function):
    """The names of the parameters, with a * before the first that is passed by name only."""
    found = []
    for part in inspect.signature(function).parameters.values():
        if part.kind is part.KEYWORD_ONLY and "*" not in found:
            found.append("*")
        found.append(part.name)
    return found


class Interface(unittest.TestCase):

    def test_names_are_defined_in_their_own_files(self):
        for module, name in DEFINED:
            tree = ast.parse((PACKAGE / f"{module}.py").read_text())
            found = [part.name for part in tree.body if isinstance(part, (ast.FunctionDef, ast.ClassDef))]
            self.assertEqual(found.count(name), 1, name)
            self.assertTrue(hasattr(importlib.import_module(f"momentrows.{module}"), name))

    def test_methods_stand_in_the_class_itself(self):
        for (module, name), methods in METHODS.items():
            owner = getattr(importlib.import_module(f"momentrows.{module}"), name)
            for method, parameters in methods.items():
                self.assertIn(method, vars(owner), name)
                self.assertEqual(parameters_of(vars(owner)[method]), ["self", *parameters], f"{name}.{method}")

    def test_read_is_static(self):
        self.assertIsInstance(vars(Ratio)["read"], staticmethod)
        self.assertEqual(list(inspect.signature(Ratio.read).parameters), ["text"])
        self.assertEqual(Ratio(5).read("1/2"), Ratio(1, 2))

    def test_parameters_of_functions(self):
        for (module, name), wanted in FUNCTIONS.items():
            function = getattr(importlib.import_module(f"momentrows.{module}"), name)
            self.assertEqual(parameters_of(function), wanted, name)
            for part in inspect.signature(function).parameters.values():
                self.assertIs(part.default, part.empty)

    def test_the_ends_of_a_place_may_be_left_out(self):
        parts = inspect.signature(Place).parameters
        self.assertEqual([part.default for part in parts.values()], [None, None])

    def test_attributes_are_set_when_an_object_is_created(self):
        for number in (Ratio(0), Ratio(3, -6), Ratio.read("1/7")):
            self.assertLessEqual({"top", "bottom"}, set(vars(number)))
        for p in (Poly([]), Poly([0]), Poly((1, 2)), Poly([1]) * 0):
            self.assertLessEqual({"coefficients", "degree", "lead"}, set(vars(p)))
        for where in (Place(), Place(0), Place(0, 1), Place(0).moved(1), Place().stretched(2)):
            self.assertLessEqual({"low", "high"}, set(vars(where)))
        for lot in (Lot(Poly([1]), []), lot_at([1, 2], [3, 4]), lot_of([1, 0, 1], Place()), lot_at([1], [2]) * 0):
            self.assertLessEqual({"poly", "begin", "count"}, set(vars(lot)))
        for bar in (Bar(Poly([1]), Poly([1])), bar_of([-1], Place()), bar_of([1, 0, 0, 0, 1], Place())):
            self.assertLessEqual({"factor", "base", "other"}, set(vars(bar)))
        self.assertIn("place", vars(Means(Place())))

    def test_other_may_be_left_out_of_a_bar(self):
        self.assertIsNone(inspect.signature(Bar).parameters["other"].default)


if __name__ == "__main__":
    unittest.main()
