import copy
import importlib
import inspect
import unittest
from pathlib import Path

from rootbags.bags import Bag
from rootbags.rows import Row
from rootbags.shelf import LoggedShelf, Shelf
from rootbags.terms import parse_term

ROOT = Path(__file__).resolve().parent.parent

# The parameters as the document shows them: those behind "*" are keyword-only.
FUNCTIONS = {
    "rationals": {
        "lowest": "(numerator, denominator)",
        "number_text": "(value)",
        "parse_number": "(text)",
    },
    "polynomials": {
        "value_at": "(poly, place)",
        "divided": "(one, other)",
        "greatest_divisor": "(one, other)",
        "cofactors": "(one, other)",
    },
    "operations": {
        "joined": "(*bags)",
        "pair_sums": "(one, other, *, road='sums')",
        "pair_differences": "(one, other, *, road='sums')",
        "pair_products": "(one, other, *, road='sums')",
        "inverses": "(bag, *, road='sums')",
        "pair_quotients": "(one, other, *, road='sums')",
        "powers": "(bag, exponent, *, road='sums')",
        "mapped": "(bag, rule, *, road='sums')",
        "choice_sums": "(bag, many, *, road='sums')",
        "choice_products": "(bag, many, *, road='sums')",
        "successive_powers": "(bag, most)",
    },
    "parts": {
        "distinct": "(bag)",
        "common": "(one, other)",
        "without": "(one, other)",
        "is_inside": "(one, other)",
        "containment": "(one, other)",
        "containment_holds": "(one, other, claimed)",
        "meeting": "(one, other)",
        "meeting_holds": "(one, other, claimed)",
        "parts_by_count": "(bag)",
    },
    "reals": {"count_real": "(bag, *, above=None, to=None)"},
    "rounds": {
        "unity": "(order)",
        "come_round": "(bag)",
        "round_holds": "(bag, claimed)",
        "orders": "(bag)",
    },
    "terms": {
        "parse_term": "(text)",
        "format_term": "(tree)",
        "names_in": "(tree)",
        "node_count": "(tree)",
    },
    "evaluation": {
        "size_bound": "(tree, sizes)",
        "evaluate": "(tree, bags, *, road='sums')",
        "value_of": "(text, *, road='sums', **bags)",
    },
    "plans": {
        "compiled": "(*trees)",
        "plan_trees": "(plan)",
        "run_plan": "(plan, bags, *, road='sums')",
        "plan_table": "(plan)",
    },
    "rows": {
        "first_difference": "(one, other)",
        "follows": "(bag, numbers)",
    },
    "snapshots": {
        "write_snapshot": "(shelf)",
        "read_snapshot": "(text)",
    },
}
CLASSES = {
    "bags": {
        "Bag": {
            "__init__": "(self, parts)",
            "of": "(cls, *numbers)",
            "of_sums": "(cls, sums)",
            "coefficients": "(self)",
            "power_sums": "(self, most=None)",
            "often": "(self, value)",
            "__len__": "(self)",
            "__eq__": "(self, other)",
            "__repr__": "(self)",
            "__contains__": "(self, x)",
            "__or__": "(self, other)",
            "__and__": "(self, other)",
            "__neg__": "(self)",
            "__add__": "(self, other)",
            "__sub__": "(self, other)",
            "__mul__": "(self, other)",
        },
    },
    "rows": {
        "Row": {
            "__init__": "(self, bag, *first)",
            "terms": "(self, many)",
            "__call__": "(self, place)",
            "walk": "(self, *, first=0, many=10)",
            "residue": "(self, place, modulus)",
            "__add__": "(self, other)",
            "__mul__": "(self, other)",
            "__neg__": "(self)",
            "__eq__": "(self, other)",
            "__len__": "(self)",
            "__repr__": "(self)",
            "total": "(self)",
            "every": "(self, step, *, first=0)",
            "shifted": "(self, many=1)",
        },
    },
    "shelf": {
        "Shelf": {
            "__init__": "(self)",
            "apply": "(self, command)",
            "apply_all": "(self, commands)",
            "undo": "(self)",
            "redo": "(self)",
            "history": "(self)",
            "set_room": "(self, value)",
            "names": "(self)",
            "term": "(self, name)",
            "uses": "(self, name)",
            "users": "(self, name)",
            "value": "(self, name)",
            "kept": "(self)",
            "table": "(self)",
            "twin": "(self)",
            "__len__": "(self)",
            "__eq__": "(self, other)",
            "__contains__": "(self, x)",
            "__repr__": "(self)",
        },
        "LoggedShelf": {
            "__init__": "(self)",
            "apply": "(self, command)",
            "apply_all": "(self, commands)",
            "undo": "(self)",
            "redo": "(self)",
            "log": "(self)",
        },
    },
    "console": {
        "Console": {
            "__init__": "(self, *, shelf=None)",
            "run": "(self, line)",
            "shelf": "(self)",
            "log": "(self)",
            "__len__": "(self)",
        },
    },
}
PROPERTIES = {"Bag": ["size"], "Shelf": ["room", "computed"], "LoggedShelf": ["refused"]}
CLASS_METHODS = {"Bag": ["of", "of_sums"]}
CLASS_VALUES = {"Bag": {"MOST": 40}, "Shelf": {"MOST": 12}}
CONSTANTS = {
    "rationals": {"MAX_FIGURES": 100},
    "bags": {"MAX_SIZE": 40, "MAX_DIGITS": 100, "MAX_SUMS": 200},
    "operations": {"ROADS": ("sums", "matrices"), "MAX_EXPONENT": 16, "MAX_DEGREE": 6},
    "rounds": {"MAX_ORDER": 150},
    "terms": {"MAX_TEXT": 400, "MAX_OPEN": 20, "MAX_NODES": 60},
    "rows": {"MAX_TERMS": 400, "FAR": 10 ** 40},
}
ONE = Bag((3, -1, 1))
OTHER = Bag((1, 2, 5))
TREE = parse_term("-map([1, 2], one) | sums(other + {1, 2/4}, 2)")
PLAN = ([("name", "one"), ("name", "other"), ("sum", 0, 1), ("power", 2, 0)], [3, 0, 2])
CALLS = (
    ("rationals", "lowest", (6, -4)),
    ("rationals", "number_text", ((6, -4),)),
    ("rationals", "parse_number", ("-3/2",)),
    ("polynomials", "value_at", ((1, (2, -4), 0), (6, 4))),
    ("polynomials", "divided", (((6, -4), 5, 1, 0), (1, (2, -4), 0))),
    ("polynomials", "greatest_divisor", (((6, -4), 5, 1, 0), (1, (2, -4), 0))),
    ("polynomials", "cofactors", (((6, -4), 5, 1, 0), (1, (2, -4), 0))),
    ("operations", "pair_sums", (ONE, OTHER)),
    ("operations", "pair_differences", (ONE, OTHER)),
    ("operations", "pair_products", (ONE, OTHER)),
    ("operations", "inverses", (ONE,)),
    ("operations", "pair_quotients", (ONE, OTHER)),
    ("operations", "powers", (ONE, 3)),
    ("operations", "mapped", (ONE, [1, (2, -4), 0])),
    ("operations", "choice_sums", (ONE, 2)),
    ("operations", "choice_products", (ONE, 2)),
    ("parts", "distinct", (ONE,)),
    ("parts", "common", (ONE, OTHER)),
    ("parts", "without", (ONE, OTHER)),
    ("parts", "is_inside", (ONE, OTHER)),
    ("parts", "containment", (ONE, OTHER)),
    ("parts", "containment_holds", (ONE, OTHER, ("outside", ONE, (1, 0), ((2, -4),)))),
    ("parts", "meeting", (ONE, OTHER)),
    ("parts", "meeting_holds", (ONE, OTHER, ("apart", (1, 0), ((2, -4),)))),
    ("parts", "parts_by_count", (ONE,)),
    ("reals", "count_real", (ONE,)),
    ("rounds", "unity", (12,)),
    ("rounds", "come_round", (ONE,)),
    ("rounds", "round_holds", (ONE, ("apart", 0, 0))),
    ("rounds", "orders", (Bag.of(0, 1, -1),)),
    ("terms", "parse_term", (" -a | {1, 2/4}",)),
    ("terms", "format_term", (TREE,)),
    ("terms", "names_in", (TREE,)),
    ("terms", "node_count", (TREE,)),
    ("evaluation", "size_bound", (TREE, {"other": 3, "one": 2, "more": 7})),
    ("evaluation", "evaluate", (TREE, {"other": OTHER, "one": ONE, "more": OTHER})),
    ("evaluation", "value_of", ("{1, 2/4} ^ 2",)),
    ("plans", "plan_trees", (PLAN,)),
    ("plans", "run_plan", (PLAN, {"other": OTHER, "one": ONE, "more": OTHER})),
    ("plans", "plan_table", (PLAN,)),
    ("rows", "first_difference", (Row(ONE, 1, 2), Row(OTHER, 1, 2))),
    ("rows", "follows", (ONE, [1, (2, -4), 0])),
    ("snapshots", "read_snapshot", ("a = {1}\nb = a | a\n",)),
)


def module(name):
    return importlib.import_module(f"rootbags.{name}")


class Interface(unittest.TestCase):
    def test_functions_are_defined_in_their_files_with_their_parameters(self):
        for name, functions in FUNCTIONS.items():
            for function, parameters in functions.items():
                found = getattr(module(name), function)
                self.assertTrue(inspect.isfunction(found), function)
                self.assertEqual(found.__module__, f"rootbags.{name}")
                self.assertEqual(str(inspect.signature(found)), parameters, function)

    def test_classes_have_their_methods_in_their_own_bodies(self):
        for name, classes in CLASSES.items():
            for kind, methods in classes.items():
                found = getattr(module(name), kind)
                self.assertTrue(inspect.isclass(found))
                self.assertEqual(found.__module__, f"rootbags.{name}")
                for method, parameters in methods.items():
                    self.assertIn(method, vars(found))
                    plain = getattr(vars(found)[method], "__func__", vars(found)[method])
                    self.assertEqual(str(inspect.signature(plain)), parameters, method)
                for method in CLASS_METHODS.get(kind, []):
                    self.assertIsInstance(vars(found)[method], classmethod)
                for value in PROPERTIES.get(kind, []):
                    self.assertIsInstance(vars(found)[value], property)
                for value, worth in CLASS_VALUES.get(kind, {}).items():
                    self.assertEqual(vars(found)[value], worth)

    def test_the_room_can_be_assigned(self):
        self.assertIsNotNone(vars(Shelf)["room"].fset)
        for name in ("computed", "refused"):
            self.assertIsNone(vars(Shelf).get(name, vars(LoggedShelf).get(name)).fset)
        self.assertEqual(LoggedShelf.__bases__, (Shelf,))

    def test_constants(self):
        for name, constants in CONSTANTS.items():
            for constant, value in constants.items():
                self.assertEqual(getattr(module(name), constant), value)

    def test_there_is_one_package_with_an_init_file(self):
        self.assertEqual([str(path.relative_to(ROOT)) for path in ROOT.glob("*/__init__.py")], ["rootbags/__init__.py"])


class GeneralRules(unittest.TestCase):
    def test_calls_by_position_and_by_name_are_equal(self):
        for name, function, arguments in CALLS:
            called = getattr(module(name), function)
            by_name = dict(zip(inspect.signature(called).parameters, arguments))
            self.assertEqual(called(*arguments), called(**by_name), function)

    def test_equal_calls_return_equal_results_and_change_no_arguments(self):
        for name, function, arguments in CALLS:
            called = getattr(module(name), function)
            before = copy.deepcopy(arguments)
            first = called(*arguments)
            self.assertEqual(arguments, before, function)
            self.assertEqual(called(*arguments), first, function)


if __name__ == "__main__":
    unittest.main()
