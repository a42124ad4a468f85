import copy
import importlib
import inspect
import unittest
from pathlib import Path

ROOT = Path(__file__).resolve().parent.parent

FUNCTIONS = {
    "rationals": {
        "lowest": ["numerator", "denominator"],
        "number_text": ["value"],
        "parse_number": ["text"],
    },
    "polynomials": {
        "value_at": ["poly", "place"],
        "divided": ["one", "other"],
        "greatest_divisor": ["one", "other"],
        "cofactors": ["one", "other"],
    },
}
CONSTANTS = {"rationals": {"MAX_FIGURES": 100}}
CALLS = (
    ("rationals", "lowest", (6, -4)),
    ("rationals", "number_text", ((6, -4),)),
    ("rationals", "parse_number", ("-3/2",)),
    ("polynomials", "value_at", ((1, (2, -4), 0), (6, 4))),
    ("polynomials", "divided", (((6, -4), 5, 1, 0), (1, (2, -4), 0))),
    ("polynomials", "greatest_divisor", (((6, -4), 5, 1, 0), (1, (2, -4), 0))),
    ("polynomials", "cofactors", (((6, -4), 5, 1, 0), (1, (2, -4), 0))),
)


def module(name):
    return importlib.import_module(f"rootbags.{name}")


class Interface(unittest.TestCase):
    def test_functions_are_defined_in_their_files_with_their_parameters(self):
        for name, functions in FUNCTIONS.items():
            for function, parameters in functions.items():
                found = getattr(module(name), function)
                self.assertTrue(inspect.isfunction(found), function)
                self.assertEqual(found.__module__, f"rootbags.{name}")
                signature = inspect.signature(found)
                self.assertEqual(list(signature.parameters), parameters, function)
                for parameter in signature.parameters.values():
                    self.assertEqual(parameter.kind, inspect.Parameter.POSITIONAL_OR_KEYWORD, function)
                    self.assertIs(parameter.default, inspect.Parameter.empty, function)

    def test_constants(self):
        for name, constants in CONSTANTS.items():
            for constant, value in constants.items():
                self.assertEqual(getattr(module(name), constant), value)

    def test_there_is_one_package_with_an_init_file(self):
        self.assertEqual([str(path.relative_to(ROOT)) for path in ROOT.glob("*/__init__.py")], ["rootbags/__init__.py"])


class GeneralRules(unittest.TestCase):
    def test_calls_by_position_and_by_name_are_equal(self):
        for name, function, arguments in CALLS:
            called = getattr(module(name), function)
            by_name = dict(zip(FUNCTIONS[name][function], arguments))
            self.assertEqual(called(*arguments), called(**by_name), function)

    def test_equal_calls_return_equal_results_and_change_no_arguments(self):
        for name, function, arguments in CALLS:
            called = getattr(module(name), function)
            before = copy.deepcopy(arguments)
            first = called(*arguments)
            self.assertEqual(arguments, before, function)
            self.assertEqual(called(*arguments), first, function)


if __name__ == "__main__":
    unittest.main()
