import inspect
import pickle
import unittest

from rootbags import errors
from rootbags.bags import Bag
from rootbags.evaluation import evaluate, value_of
from rootbags.operations import choice_sums, inverses, powers
from rootbags.polynomials import divided
from rootbags.rationals import lowest
from rootbags.rounds import orders, unity
from rootbags.rows import Row
from rootbags.shelf import LoggedShelf, Shelf
from rootbags.snapshots import read_snapshot
from rootbags.terms import parse_term

BAG_ERRORS = {
    "InvalidNumber": None,
    "InvalidPolynomial": None,
    "SizeExceeded": "limit",
    "DigitsExceeded": "limit",
    "ContainsZero": None,
    "InvalidExponent": "exponent",
    "InvalidChoice": "many",
    "InvalidCount": "many",
    "InvalidRoad": "road",
    "InvalidSums": None,
    "InvalidOrder": "order",
    "NotRound": None,
    "InvalidText": "position",
    "NestingTooDeep": "limit",
    "TermTooLarge": "limit",
    "InvalidRow": None,
    "InvalidPlace": "place",
    "InvalidModulus": "modulus",
    "SharedDivisor": "modulus",
    "InvalidName": "name",
    "DuplicateName": "name",
    "NameInUse": "name",
    "CircularName": "name",
    "LimitReached": "limit",
    "InvalidLimit": "limit",
    "InvalidCommand": "position",
    "InvalidSnapshot": "line",
}
MISSING = {"UnknownName": "name", "EmptyHistory": None}
ROW = Row(Bag.of((1, 2)), 1)


def filled():
    """A shelf with a name that another one uses, and no more room."""
    shelf = Shelf()
    shelf.apply_all([("define", "a", "{1}"), ("define", "b", "a")])
    shelf.room = 2
    return shelf


# Calls that raise each of the errors, with the value of its attribute.
RAISED = (
    ("InvalidNumber", None, lambda: lowest(1, 0)),
    ("InvalidPolynomial", None, lambda: divided((1,), (0, 0))),
    ("SizeExceeded", 40, lambda: Bag((1,) * 42)),
    ("DigitsExceeded", 100, lambda: Bag.of(10 ** 100)),
    ("ContainsZero", None, lambda: inverses(Bag.of(0))),
    ("InvalidExponent", 17, lambda: powers(Bag.of(1), 17)),
    ("InvalidExponent", 0, lambda: ROW.every(0)),
    ("InvalidChoice", -1, lambda: choice_sums(Bag.of(1), -1)),
    ("InvalidCount", 201, lambda: Bag.of(1).power_sums(201)),
    ("InvalidCount", -7, lambda: ROW.terms(-7)),
    ("InvalidCount", 401, lambda: ROW.shifted(401)),
    ("InvalidRoad", "rows", lambda: powers(Bag.of(1), 17, road="rows")),
    ("InvalidSums", None, lambda: Bag.of_sums([])),
    ("InvalidOrder", 151, lambda: unity(151)),
    ("NotRound", None, lambda: orders(Bag.of(2))),
    ("InvalidText", 2, lambda: parse_term("a a")),
    ("NestingTooDeep", 20, lambda: parse_term("(" * 21)),
    ("TermTooLarge", 60, lambda: parse_term("-" * 60 + "a")),
    ("InvalidRow", None, lambda: Row(Bag.of(1))),
    ("InvalidPlace", 400, lambda: ROW(400)),
    ("InvalidPlace", -1, lambda: list(ROW.walk(first=-1))),
    ("InvalidModulus", 0, lambda: ROW.residue(0, 0)),
    ("SharedDivisor", 6, lambda: ROW.residue(0, 6)),
    ("InvalidName", "A", lambda: Shelf().apply(("define", "A", ""))),
    ("DuplicateName", "b", lambda: filled().apply(("rename", "a", "b"))),
    ("NameInUse", "b", lambda: filled().apply(("drop", "a"))),
    ("CircularName", "a", lambda: filled().apply(("replace", "a", "b"))),
    ("LimitReached", 2, lambda: filled().apply(("define", "c", "a"))),
    ("InvalidLimit", 13, lambda: filled().set_room(13)),
    ("InvalidCommand", 1, lambda: filled().apply_all([("drop", "b"), ("drop",)])),
    ("InvalidCommand", 0, lambda: LoggedShelf().apply(())),
    ("InvalidSnapshot", 1, lambda: read_snapshot("a = {}\nb = z\n")),
    ("UnknownName", "x", lambda: value_of("y | x")),
    ("UnknownName", "y", lambda: evaluate(parse_term("y | x"), {"x": Bag.of()})),
    ("UnknownName", "z", lambda: filled().value("z")),
    ("EmptyHistory", None, lambda: Shelf().undo()),
    ("EmptyHistory", None, lambda: LoggedShelf().redo()),
)


def created(name, attribute, value):
    """An error of a class, with a value for its attribute if it has one."""
    kind = getattr(errors, name)
    return kind() if attribute is None else kind(value)


class ErrorClasses(unittest.TestCase):
    def both(self):
        for name, attribute in BAG_ERRORS.items():
            yield name, attribute, errors.BagError
        for name, attribute in MISSING.items():
            yield name, attribute, errors.Missing

    def test_base_classes_of_the_base_classes(self):
        self.assertEqual(errors.BagError.__bases__, (ValueError,))
        self.assertEqual(errors.Missing.__bases__, (LookupError,))

    def test_each_class_has_just_its_base_class(self):
        for name, _, base in self.both():
            self.assertEqual(getattr(errors, name).__bases__, (base,), name)

    def test_no_class_is_lacking_and_there_is_no_other_one(self):
        found = {name for name, item in vars(errors).items() if inspect.isclass(item)}
        self.assertEqual(found, {"BagError", "Missing", *BAG_ERRORS, *MISSING})

    def test_no_other_class_is_a_base_class(self):
        names = [*BAG_ERRORS, *MISSING]
        for one in names:
            for other in names:
                if one != other:
                    self.assertFalse(issubclass(getattr(errors, one), getattr(errors, other)), (one, other))

    def test_classes_are_defined_in_this_file(self):
        for name, _, base in self.both():
            self.assertEqual(getattr(errors, name).__module__, "rootbags.errors")
            self.assertEqual(base.__module__, "rootbags.errors")

    def test_code_is_the_name_of_the_class(self):
        for name, attribute, _ in self.both():
            self.assertEqual(created(name, attribute, 7).code, name)
        self.assertEqual(errors.BagError().code, "BagError")
        self.assertEqual(errors.Missing().code, "Missing")

    def test_attribute_has_the_value(self):
        for value in (0, -5, 10 ** 119, "", "abc"):
            for name, attribute, _ in self.both():
                if attribute is not None:
                    self.assertEqual(getattr(created(name, attribute, value), attribute), value, name)

    def test_there_is_no_other_attribute(self):
        for name, attribute, _ in self.both():
            expected = {"code"} if attribute is None else {"code", attribute}
            self.assertEqual(set(vars(created(name, attribute, 7))), expected, name)

    def test_errors_as_they_are_raised(self):
        self.assertEqual({name for name, _, _ in RAISED}, {*BAG_ERRORS, *MISSING})
        for name, value, call in RAISED:
            base = errors.BagError if name in BAG_ERRORS else errors.Missing
            with self.assertRaises(base) as caught:
                call()
            error = caught.exception
            attribute = {**BAG_ERRORS, **MISSING}[name]
            self.assertIs(type(error), getattr(errors, name))
            self.assertIsInstance(error, ValueError if name in BAG_ERRORS else LookupError)
            self.assertEqual(vars(error), {"code": name} if attribute is None else {"code": name, attribute: value})

    def test_errors_can_be_raised_caught_and_copied(self):
        for name, attribute, base in self.both():
            error = created(name, attribute, 7)
            with self.assertRaises(base) as caught:
                raise error
            self.assertEqual(caught.exception.code, name)
            copied = pickle.loads(pickle.dumps(error))
            self.assertEqual(vars(copied), vars(error))


if __name__ == "__main__":
    unittest.main()
