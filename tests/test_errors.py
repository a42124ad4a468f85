import inspect
import pickle
import unittest

from rootbags import errors

BAG_ERRORS = {
    "InvalidNumber": None,
    "InvalidPolynomial": None,
    "SizeExceeded": "limit",
    "DigitsExceeded": "limit",
    "ContainsZero": None,
    "InvalidExponent": "exponent",
    "InvalidChoice": "many",
    "InvalidCount": "many",
    "InvalidRoad": "road",
    "InvalidSums": None,
    "InvalidOrder": "order",
    "NotRound": None,
    "InvalidText": "position",
    "NestingTooDeep": "limit",
    "TermTooLarge": "limit",
    "InvalidRow": None,
    "InvalidPlace": "place",
    "InvalidModulus": "modulus",
    "SharedDivisor": "modulus",
    "InvalidName": "name",
    "DuplicateName": "name",
    "NameInUse": "name",
    "CircularName": "name",
    "LimitReached": "limit",
    "InvalidLimit": "limit",
    "InvalidCommand": "position",
    "InvalidSnapshot": "line",
}
MISSING = {"UnknownName": "name", "EmptyHistory": None}


def created(name, attribute, value):
    """An error of a class, with a value for its attribute if it has one."""
    kind = getattr(errors, name)
    return kind() if attribute is None else kind(value)


class ErrorClasses(unittest.TestCase):
    def both(self):
        for name, attribute in BAG_ERRORS.items():
            yield name, attribute, errors.BagError
        for name, attribute in MISSING.items():
            yield name, attribute, errors.Missing

    def test_base_classes_of_the_base_classes(self):
        self.assertEqual(errors.BagError.__bases__, (ValueError,))
        self.assertEqual(errors.Missing.__bases__, (LookupError,))

    def test_each_class_has_just_its_base_class(self):
        for name, _, base in self.both():
            self.assertEqual(getattr(errors, name).__bases__, (base,), name)

    def test_no_class_is_lacking_and_there_is_no_other_one(self):
        found = {name for name, item in vars(errors).items() if inspect.isclass(item)}
        self.assertEqual(found, {"BagError", "Missing", *BAG_ERRORS, *MISSING})

    def test_no_other_class_is_a_base_class(self):
        names = [*BAG_ERRORS, *MISSING]
        for one in names:
            for other in names:
                if one != other:
                    self.assertFalse(issubclass(getattr(errors, one), getattr(errors, other)), (one, other))

    def test_classes_are_defined_in_this_file(self):
        for name, _, base in self.both():
            self.assertEqual(getattr(errors, name).__module__, "rootbags.errors")
            self.assertEqual(base.__module__, "rootbags.errors")

    def test_code_is_the_name_of_the_class(self):
        for name, attribute, _ in self.both():
            self.assertEqual(created(name, attribute, 7).code, name)
        self.assertEqual(errors.BagError().code, "BagError")
        self.assertEqual(errors.Missing().code, "Missing")

    def test_attribute_has_the_value(self):
        for value in (0, -5, 10 ** 119, "", "abc"):
            for name, attribute, _ in self.both():
                if attribute is not None:
                    self.assertEqual(getattr(created(name, attribute, value), attribute), value, name)

    def test_there_is_no_other_attribute(self):
        for name, attribute, _ in self.both():
            expected = {"code"} if attribute is None else {"code", attribute}
            self.assertEqual(set(vars(created(name, attribute, 7))), expected, name)

    def test_errors_can_be_raised_caught_and_copied(self):
        for name, attribute, base in self.both():
            error = created(name, attribute, 7)
            with self.assertRaises(base) as caught:
                raise error
            self.assertEqual(caught.exception.code, name)
            copied = pickle.loads(pickle.dumps(error))
            self.assertEqual(vars(copied), vars(error))


if __name__ == "__main__":
    unittest.main()
