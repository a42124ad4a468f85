import unittest
from fractions import Fraction
from math import gcd, prod

from rootbags.bags import Bag
from rootbags.errors import (DigitsExceeded, InvalidCount, InvalidExponent, InvalidModulus, InvalidNumber, InvalidPlace,
                             InvalidRow, SharedDivisor, SizeExceeded)
from rootbags.operations import powers
from rootbags.rounds import unity
from rootbags.rows import FAR, MAX_TERMS, Row, first_difference, follows
from support import BagCase, Samples, fraction, fractions, pair

EMPTY = Bag.of()
GOLDEN = Bag((-1, -1, 1))
FIBONACCI = Row(GOLDEN, 0, 1)
NOTHING = Row(EMPTY)
WRONG = ((1, 0), (0, 0), (-7, 0))
GREAT = (10 ** 40, 10 ** 119, -1, -10 ** 119)


def term_list(bag, first, many):
    """The terms of a row as fractions, one by one."""
    coefficients = fractions(bag.coefficients())
    found = [fraction(value) for value in first]
    while len(found) < many:
        window = found[len(found) - bag.size:]
        found.append(-sum((left * right for left, right in zip(coefficients, window)), Fraction(0)))
    return found[:many]


def terms_of(row, many):
    """The terms of a row as fractions, from its first terms."""
    return term_list(row.bag, row.terms(len(row)), many)


def pairs(values):
    return [pair(Fraction(value)) for value in values]


def random_row(samples, size):
    """A row of a bag of so many numbers, with fractions among the coefficients and the first terms."""
    shape = samples.random.randrange(4)
    if shape == 0:
        bag = Bag.of(*[pair(root) for root in samples.roots(size)])
    elif shape == 1:
        bag = samples.bag(size)
    elif shape == 2:
        bag = Bag((0, *[samples.number(1) for _ in range(size - 1)], 6)) if size > 0 else EMPTY
    else:
        bag = Bag((*[samples.rational(1) for _ in range(size)], samples.nonzero(1)))
    return Row(bag, *[samples.rational(1) for _ in range(size)])


class Terms(BagCase):
    def assert_terms(self, row, first, many):
        wanted = pairs(term_list(row.bag, first, many))
        self.assertEqual(row.terms(many), wanted)
        return wanted

    def test_constants(self):
        self.assertEqual((MAX_TERMS, FAR), (400, 10 ** 40))

    def test_samples(self):
        samples = Samples(701)
        for _ in range(150):
            size = samples.random.randrange(9)
            row = random_row(samples, size)
            first = row.terms(size)
            for many in (0, 1, size, size + 1, 30):
                self.assert_terms(row, first, many)

    def test_first_terms_as_they_are_passed(self):
        first = [3, (6, -4), (0, 5), (-10, -4), (7, 1)]
        row = Row(Bag((1, 2, 3, 4, 5, 6)), *first)
        self.assertEqual(row.terms(5), [(3, 1), (-3, 2), (0, 1), (5, 2), (7, 1)])
        self.assert_terms(row, first, 40)

    def test_many_first_terms(self):
        samples = Samples(702)
        for size in (14, 17, 20, 31, 40):
            for _ in range(3):
                row = random_row(samples, size)
                self.assert_terms(row, row.terms(size), size + 25)

    def test_all_terms(self):
        for row in (FIBONACCI, Row(Bag.of((1, 2), (2, 3)), 1, 1), Row(Bag((3, 5, 7)), 1, (1, 11)), NOTHING,
                    Row(Bag.of(*[(1, 2)] * 40), *range(40)), Row(Bag((-1, *[0] * 39, 1)), *range(40))):
            wanted = self.assert_terms(row, row.terms(len(row)), 400)
            self.assertEqual([row(place) for place in (0, 1, 2, 57, 398, 399)],
                             [wanted[place] for place in (0, 1, 2, 57, 398, 399)])

    def test_long_coefficients(self):
        bag = Bag((*[10 ** 99 + at for at in range(40)], 10 ** 98 + 1))
        row = Row(bag, *range(36), *[(at, 10 ** 119 - at) for at in range(1, 5)])
        self.assert_terms(row, row.terms(40), 45)
        wanted = fraction(row(399))
        found = [fraction(term) for term in row.terms(399)[-40:]]
        self.assertEqual(wanted, -sum(left * right for left, right in zip(fractions(bag.coefficients()), found)))

    def test_the_row_of_the_empty_bag(self):
        self.assertEqual(NOTHING.terms(3), [(0, 1)] * 3)
        self.assertEqual((NOTHING(0), NOTHING(399), NOTHING.terms(0)), ((0, 1), (0, 1), []))
        self.assertEqual(list(NOTHING.walk(many=2)), [(0, 1), (0, 1)])
        self.assertEqual((len(NOTHING), repr(NOTHING), bool(NOTHING)), (0, "Row(0 first terms)", False))
        self.assertEqual(NOTHING.residue(10 ** 40, 7), 0)
        self.assertEqual((NOTHING + NOTHING, NOTHING * FIBONACCI, -NOTHING), (NOTHING,) * 3)
        self.assertEqual(NOTHING + FIBONACCI, FIBONACCI)
        self.assertEqual(NOTHING.total(), Row(Bag.of(1), 0))
        for step in (1, 2, 16):
            for first in (0, 1, 7, 399):
                self.assertEqual(NOTHING.every(step, first=first), NOTHING)
        for many in (0, 1, 400):
            self.assertEqual(NOTHING.shifted(many), NOTHING)

    def test_rows_of_zeros(self):
        row = Row(Bag((-1, 5, 6)), 0, 0)
        self.assertEqual(row.terms(400), [(0, 1)] * 400)
        self.assertEqual(row.residue(10 ** 39, 35), 0)

    def test_bags_with_zeros(self):
        row = Row(Bag.of(0, 0, 2), 5, 7, 1)
        self.assertEqual(row.terms(6), pairs([5, 7, 1, 2, 4, 8]))
        self.assertEqual(Row(Bag.of(0), (1, 3)).terms(3), [(1, 3), (0, 1), (0, 1)])

    def test_counts(self):
        for many in (-1, 401, *GREAT):
            self.assertEqual(self.assert_raises(InvalidCount, FIBONACCI.terms, many).many, many)
        self.assertEqual(len(FIBONACCI.terms(many=400)), 400)

    def test_returned_lists_are_new(self):
        FIBONACCI.terms(5).clear()
        self.assertEqual(FIBONACCI.terms(5), pairs([0, 1, 1, 2, 3]))


class Calls(BagCase):
    def test_samples(self):
        samples = Samples(703)
        for _ in range(60):
            row = random_row(samples, samples.random.randrange(7))
            place = samples.random.randrange(60)
            self.assertEqual(row(place), row.terms(60)[place])
            self.assertEqual(row(place=place), row(place))

    def test_places(self):
        self.assertEqual(FIBONACCI(0), (0, 1))
        self.assertEqual(FIBONACCI(399), FIBONACCI.terms(400)[-1])
        for place in (-1, 400, *GREAT):
            self.assertEqual(self.assert_raises(InvalidPlace, FIBONACCI, place).place, place)


class Making(BagCase):
    def test_the_bag(self):
        bag = Bag((1, 2, 3))
        self.assertIs(Row(bag, 1, 2).bag, bag)
        self.assertEqual(Row(bag, 1, 2).terms(2), [(1, 1), (2, 1)])

    def test_wrong_numbers_of_terms(self):
        for many in (0, 1, 3, 4, 40, 41, 400):
            self.assert_raises(InvalidRow, Row, GOLDEN, *range(many))
        self.assert_raises(InvalidRow, Row, EMPTY, 0)
        self.assert_raises(InvalidRow, Row, Bag.of(*[1] * 40), *range(39))

    def test_invalid_numbers_come_first(self):
        for wrong in WRONG:
            for first in ((wrong, 1), (1, wrong), (wrong,), (1, 2, wrong), (wrong, wrong), (1,) * 400 + (wrong,)):
                self.assert_raises(InvalidNumber, Row, GOLDEN, *first)
            self.assert_raises(InvalidNumber, Row, EMPTY, wrong)

    def test_a_tuple_that_is_passed_on_stays(self):
        first = [(2, 4), 1]
        row = Row(GOLDEN, *first)
        first[0] = 7
        self.assertEqual(row(0), (1, 2))


class Walk(BagCase):
    def test_terms_from_a_place_on(self):
        wanted = FIBONACCI.terms(400)
        self.assertEqual(list(FIBONACCI.walk()), wanted[:10])
        self.assertEqual(list(FIBONACCI.walk(first=5)), wanted[5:15])
        self.assertEqual(list(FIBONACCI.walk(many=3)), wanted[:3])
        self.assertEqual(list(FIBONACCI.walk(many=400)), wanted)
        self.assertEqual(list(FIBONACCI.walk(first=390, many=10)), wanted[390:])
        self.assertEqual(list(FIBONACCI.walk(first=399, many=1)), wanted[399:])
        self.assertEqual(list(FIBONACCI.walk(first=400, many=0)), [])
        self.assertEqual(list(FIBONACCI.walk(first=7, many=0)), [])

    def test_samples(self):
        samples = Samples(704)
        for _ in range(40):
            row = random_row(samples, samples.random.randrange(6))
            first, many = samples.random.randrange(20), samples.random.randrange(20)
            self.assertEqual(list(row.walk(first=first, many=many)), row.terms(first + many)[first:])

    def test_errors_when_it_is_iterated(self):
        for first, many, error, value in (
                (-1, 10, InvalidPlace, -1), (-1, -1, InvalidPlace, -1), (-10 ** 119, 1000, InvalidPlace, -10 ** 119),
                (0, -1, InvalidCount, -1), (0, 401, InvalidCount, 401), (1, 400, InvalidCount, 400),
                (400, 1, InvalidCount, 1), (401, 0, InvalidCount, 0), (401, -1, InvalidCount, -1),
                (402, -2, InvalidCount, -2), (10 ** 119, 0, InvalidCount, 0), (500, 10, InvalidCount, 10),
                (500, -100, InvalidCount, -100), (391, 10, InvalidCount, 10)):
            walk = FIBONACCI.walk(first=first, many=many)
            caught = self.assert_raises(error, next, walk)
            self.assertEqual(caught.place if error is InvalidPlace else caught.many, value)

    def test_several_in_turns(self):
        one = FIBONACCI.walk(first=1, many=5)
        other = FIBONACCI.walk(first=3, many=5)
        third = Row(Bag.of(2), 1).walk(many=5)
        found = [(next(one), next(other), next(third)) for _ in range(5)]
        self.assertEqual(found, list(zip(pairs([1, 1, 2, 3, 5]), pairs([2, 3, 5, 8, 13]), pairs([1, 2, 4, 8, 16]))))
        for walk in (one, other, third):
            self.assertIsNone(next(walk, None))

    def test_by_keyword_only(self):
        with self.assertRaises(TypeError):
            FIBONACCI.walk(0)


class Residue(BagCase):
    def test_near_places(self):
        samples = Samples(705)
        for _ in range(80):
            row = random_row(samples, samples.random.randrange(7))
            modulus = samples.random.choice([1, 2, 7, 11, 13, 97, 101 * 103, 10 ** 9 + 7, 10 ** 40 - 1, 1009 * 1013])
            denominators = [below for _, below in row.bag.coefficients() + row.terms(len(row))]
            for place in (0, 1, 2, 3, 7, 30, 61):
                if any(gcd(modulus, below) > 1 for below in denominators):
                    self.assertEqual(self.assert_raises(SharedDivisor, row.residue, place, modulus).modulus, modulus)
                else:
                    above, below = row(place)
                    self.assertEqual(row.residue(place, modulus), above * pow(below, -1, modulus) % modulus)

    def test_the_difference_is_a_multiple(self):
        row = Row(Bag.of((1, 2), (-2, 3)), (1, 5), 4)
        for place in range(30):
            found = row.residue(place, 7 * 11 * 13)
            self.assertTrue(0 <= found < 1001)
            self.assertEqual((fraction(row(place)) - found).numerator % 1001, 0)

    def test_far_places(self):
        for place in (10 ** 40, 10 ** 40 - 1, 2 ** 100, 123456789 ** 4):
            for modulus in (1, 2, 9, 10 ** 40, 10 ** 40 - 1, 2 ** 80, 10 ** 9 + 7):
                row = Row(Bag.of(2, 3), 2, 5)
                self.assertEqual(row.residue(place, modulus),
                                 (pow(2, place, modulus) + pow(3, place, modulus)) % modulus)
                self.assertEqual(Row(Bag.of(1), 5).residue(place, modulus), 5 % modulus)
                self.assertEqual(Row(Bag.of(0), 5).residue(place, modulus), 0)
            half = Row(Bag.of((1, 2)), (3, 5)).residue(place, 7 ** 30)
            self.assertEqual(half, 3 * pow(5 * pow(2, place, 7 ** 30), -1, 7 ** 30) % 7 ** 30)
            self.assertEqual(Row(unity(12), 1, 2, 3, 4).residue(place, 100),
                             Row(unity(12), 1, 2, 3, 4)(place % 12)[0] % 100)

    def test_many_numbers(self):
        row = Row(Bag((-1, -1, *[0] * 38, 1)), *range(40))
        modulus = 10 ** 12 + 39
        for place in (0, 39, 40, 399):
            self.assertEqual(row.residue(place, modulus), row(place)[0] % modulus)
        far = 10 ** 39
        self.assertEqual(row.residue(far + 40, modulus),
                         (row.residue(far, modulus) + row.residue(far + 1, modulus)) % modulus)

    def test_bounds_and_the_order_of_the_errors(self):
        row = Row(Bag.of((1, 2)), (1, 3))
        for place in (-1, 10 ** 40 + 1, 10 ** 119):
            for modulus in (0, 6, 7, 10 ** 40 + 1):
                self.assertEqual(self.assert_raises(InvalidPlace, row.residue, place, modulus).place, place)
        for modulus in (0, -1, -7, 10 ** 40 + 1, 10 ** 119):
            self.assertEqual(self.assert_raises(InvalidModulus, row.residue, 0, modulus).modulus, modulus)
        for modulus in (2, 3, 6, 10, 9, 10 ** 40, 2 * 7 ** 20):
            self.assertEqual(self.assert_raises(SharedDivisor, row.residue, 0, modulus).modulus, modulus)
        self.assertEqual(row.residue(place=0, modulus=1), 0)
        self.assertEqual(row.residue(10 ** 40, 1), 0)
        self.assertEqual(row.residue(0, 5), 2)

    def test_denominators_in_lowest_terms(self):
        row = Row(Bag.of((2, 4), 5), (3, 9), (10, 5))
        self.assertEqual(row.residue(0, 5), 2)
        self.assert_raises(SharedDivisor, row.residue, 0, 2)
        self.assert_raises(SharedDivisor, row.residue, 1, 9)
        self.assertEqual(Row(Bag.of((4, 2)), (6, 3)).residue(1, 6), 4)
        # The denominators of the terms do not matter, only those of the coefficients and of the first terms.
        self.assert_raises(SharedDivisor, Row(Bag.of((1, 2), 1), 1, 1).residue, 5, 2)


class Operators(BagCase):
    def test_sums_and_products(self):
        samples = Samples(706)
        for _ in range(60):
            one = random_row(samples, samples.random.randrange(5))
            other = random_row(samples, samples.random.randrange(5))
            left, right = terms_of(one, 40), terms_of(other, 40)
            try:
                bag = one.bag * other.bag
            except DigitsExceeded:
                self.assert_raises(DigitsExceeded, lambda: one * other)
            else:
                self.assertEqual((one * other).bag, bag)
                self.assertEqual((one * other).terms(40), pairs([x * y for x, y in zip(left, right)]))
            self.assertEqual((one + other).bag, one.bag | other.bag)
            self.assertEqual((one + other).terms(40), pairs([x + y for x, y in zip(left, right)]))
            self.assertEqual((-one).bag, one.bag)
            self.assertEqual((-one).terms(40), pairs([-x for x in left]))

    def test_many_first_terms(self):
        samples = Samples(707)
        for sizes in ((20, 20), (14, 26), (40, 0), (0, 40), (39, 1)):
            one, other = [Row(samples.bag(size, 1), *[samples.rational(1) for _ in range(size)]) for size in sizes]
            wanted = [x + y for x, y in zip(terms_of(one, 50), terms_of(other, 50))]
            self.assertEqual((one + other).terms(50), pairs(wanted))
        for sizes in ((5, 8), (2, 20), (40, 1), (7, 3)):
            one, other = [Row(samples.bag(size, 1), *[samples.rational(1) for _ in range(size)]) for size in sizes]
            wanted = [x * y for x, y in zip(terms_of(one, 50), terms_of(other, 50))]
            self.assertEqual((one * other).terms(50), pairs(wanted))

    def test_limits(self):
        twenty, other = Row(Bag.of(*[1] * 20), *range(20)), Row(Bag.of(*[10 ** 4] * 20), *range(20))
        self.assertEqual(len(twenty + twenty), 40)
        wide = Row(Bag.of(*[0] * 21), *range(21))
        self.assert_raises(SizeExceeded, lambda: twenty + wide)
        self.assert_raises(SizeExceeded, lambda: Row(Bag.of(*[10 ** 4] * 20), *range(20)) + wide)
        self.assert_raises(SizeExceeded, lambda: wide * Row(Bag.of(1, 2), 1, 2))
        self.assert_raises(DigitsExceeded, lambda: other + other)
        self.assert_raises(DigitsExceeded, lambda: Row(Bag.of(10 ** 50), 1) + Row(Bag.of(10 ** 50), 1))
        self.assert_raises(DigitsExceeded, lambda: Row(Bag.of(10 ** 50), 1) * Row(Bag.of(10 ** 50), 1))
        self.assertEqual((Row(Bag.of(10 ** 49), 1) * Row(Bag.of(10 ** 50), 1)).bag, Bag.of(10 ** 99))

    def test_first_terms_have_no_limit(self):
        row = Row(Bag.of(1), 10 ** 119)
        for _ in range(5):
            row = row * row
        self.assertEqual(row(0), (10 ** (119 * 32), 1))
        self.assertEqual((row + Row(Bag.of(1), (1, 10 ** 119)))(7), (10 ** (119 * 33) + 1, 10 ** 119))

    def test_equality(self):
        self.assertTrue(FIBONACCI == Row(Bag((1, 1, -1)), (0, -3), (2, 2)))
        self.assertFalse(FIBONACCI != Row(Bag((-2, -2, 2)), 0, (5, 5)))
        for other in (Row(GOLDEN, 1, 0), Row(GOLDEN, 0, 2), Row(Bag((-1, -2, 1)), 0, 1), NOTHING, GOLDEN, (0, 1),
                      None, 1,
                      [(0, 1), (1, 1)], "Row(2 first terms)", Row(GOLDEN, 0, (1, 2)),
                      Row(Bag((0, -1, -1, 1)), 0, 1, 1)):
            self.assertFalse(FIBONACCI == other)
            self.assertTrue(FIBONACCI != other)
        self.assertEqual(Row(EMPTY), Row(EMPTY))
        self.assertNotEqual(Row(Bag.of(2), (1, 3)), Row(Bag.of(2), (2, 3)))
        self.assertNotEqual(Row(Bag.of(2), 1), Row(Bag.of(3), 1))

    def test_len_and_repr(self):
        for size in (0, 1, 2, 40):
            row = Row(Bag.of(*[1] * size), *range(size))
            self.assertEqual((len(row), repr(row)), (size, f"Row({size} first terms)"))

    def test_rows_do_not_change(self):
        one, other = Row(GOLDEN, 0, 1), Row(Bag.of((1, 2)), (1, 3))
        before = (one.terms(10), other.terms(10), one.bag, other.bag)
        (one + other, one * other, -one, one.total(), one.every(3, first=2), one.shifted(9), list(one.walk()))
        (first_difference(one, other), one.residue(9, 7), one(3))
        self.assertEqual((one.terms(10), other.terms(10), one.bag, other.bag), before)


class Total(BagCase):
    def test_samples(self):
        samples = Samples(708)
        for _ in range(60):
            row = random_row(samples, samples.random.randrange(7))
            terms = terms_of(row, 30)
            total = row.total()
            self.assertEqual(total.bag, row.bag | Bag.of(1))
            self.assertEqual(total.terms(30), pairs([sum(terms[:many + 1], Fraction(0)) for many in range(30)]))

    def test_of_totals(self):
        row = Row(Bag.of(1), 1)
        self.assertEqual(row.total().terms(4), pairs([1, 2, 3, 4]))
        self.assertEqual(row.total().total().terms(4), pairs([1, 3, 6, 10]))

    def test_limits(self):
        self.assertEqual(len(Row(Bag.of(*[1] * 39), *range(39)).total()), 40)
        self.assert_raises(SizeExceeded, Row(Bag.of(*[1] * 40), *range(40)).total)
        long = Bag.of(10 ** 100 - 1)
        self.assert_raises(DigitsExceeded, Row(long, 1).total)
        self.assert_raises(SizeExceeded, Row(Bag((10 ** 100 - 1, *[0] * 39, 1)), *range(40)).total)


class Every(BagCase):
    def test_samples(self):
        samples = Samples(709)
        for _ in range(60):
            row = random_row(samples, samples.random.randrange(5))
            step, first = samples.random.randrange(1, 6), samples.random.randrange(12)
            terms = terms_of(row, first + step * 12)
            try:
                bag = powers(row.bag, step)
            except DigitsExceeded:
                self.assert_raises(DigitsExceeded, row.every, step, first=first)
                continue
            found = row.every(step, first=first)
            self.assertEqual(found.bag, bag)
            self.assertEqual(found.terms(12), pairs(terms[first::step]))

    def test_bounds(self):
        row = Row(Bag((-1, *[0] * 39, 1)), *range(40))
        self.assertEqual(row.every(16, first=399).terms(40), [((399 + 16 * at) % 40, 1) for at in range(40)])
        self.assertEqual(FIBONACCI.every(1), FIBONACCI)
        self.assertEqual(FIBONACCI.every(step=2).terms(5), pairs([0, 1, 3, 8, 21]))
        for step in (0, -1, 17, *GREAT):
            for first in (0, -1, 400):
                self.assertEqual(self.assert_raises(InvalidExponent, FIBONACCI.every, step, first=first).exponent, step)
        for first in (-1, 400, *GREAT):
            for step in (1, 16):
                self.assertEqual(self.assert_raises(InvalidPlace, FIBONACCI.every, step, first=first).place, first)
        long = Row(Bag.of(10 ** 99), 1)
        self.assert_raises(DigitsExceeded, long.every, 2)
        self.assert_raises(InvalidPlace, long.every, 2, first=400)
        self.assert_raises(InvalidExponent, long.every, 17, first=400)
        self.assertEqual(long.every(1, first=399)(0), (10 ** (99 * 399), 1))

    def test_many_first_terms(self):
        samples = Samples(710)
        for size, step in ((14, 3), (20, 2), (40, 2)):
            row = Row(samples.bag(size, 1), *[samples.rational(1) for _ in range(size)])
            terms = terms_of(row, 5 + step * (size + 9))
            self.assertEqual(row.every(step, first=5).terms(size + 9), pairs(terms[5::step]))


class Shifted(BagCase):
    def test_samples(self):
        samples = Samples(711)
        for _ in range(60):
            row = random_row(samples, samples.random.randrange(6))
            many = samples.random.randrange(20)
            found = row.shifted(many)
            self.assertEqual(found.bag, row.bag)
            self.assertEqual(found.terms(20), pairs(terms_of(row, 40)[many:many + 20]))

    def test_bounds(self):
        self.assertEqual(FIBONACCI.shifted(), Row(GOLDEN, 1, 1))
        self.assertEqual(FIBONACCI.shifted(0), FIBONACCI)
        self.assertEqual(FIBONACCI.shifted(many=400)(0), FIBONACCI.shifted(1)(399))
        for many in (-1, 401, *GREAT):
            self.assertEqual(self.assert_raises(InvalidCount, FIBONACCI.shifted, many).many, many)

    def test_denominators_are_lowest(self):
        row = Row(Bag.of((1, 2), 3), 1, 3)
        for _ in range(10):
            row = row.shifted(100)
        self.assertEqual(row, Row(Bag.of((1, 2), 3), 3 ** 1000, 3 ** 1001))
        self.assertEqual(Row(Bag.of(2), (1, 8)).shifted(3).residue(0, 2), 1)


class FirstDifference(BagCase):
    def test_equal_rows_with_unlike_bags(self):
        samples = Samples(712)
        for _ in range(40):
            row = random_row(samples, samples.random.randrange(5))
            more = samples.bag(samples.random.randrange(4), 1)
            other = row + Row(more, *[0] * more.size)
            self.assertIsNone(first_difference(row, other))
            self.assertIsNone(first_difference(other, row))
            self.assertIsNone(first_difference(row, row))

    def test_late_differences(self):
        for size in (1, 2, 7, 40):
            bag = Bag((-1, *[0] * (size - 1), 1))
            for place in range(size):
                first = [0] * size
                first[place] = (1, 7)
                self.assertEqual(first_difference(Row(bag, *first), NOTHING), place)
                self.assertEqual(first_difference(Row(bag, *[0] * size), Row(bag, *first)), place)
        # As late as two rows can differ first: the one repeats each third term, the other one each fourth.
        one, other = Row(unity(3) | Bag.of(1), 1, 0, 0), Row(Bag((-1, 0, 0, 0, 1)), 1, 0, 0, 1)
        self.assertEqual(first_difference(one, other), 4)
        ones = [Row(Bag.of(*[0] * size + [1]), *[0] * (size + 1)) for size in (0, 39)]
        self.assertIsNone(first_difference(*ones))

    def test_samples(self):
        samples = Samples(713)
        for _ in range(100):
            one, other = [random_row(samples, samples.random.randrange(4)) for _ in range(2)]
            left, right = terms_of(one, 12), terms_of(other, 12)
            wanted = next((at for at in range(12) if left[at] != right[at]), None)
            self.assertEqual(first_difference(one, other), wanted)
            self.assertEqual(first_difference(one=other, other=one), wanted)

    def test_the_last_possible_place(self):
        # Shares of powers that add up to zero at all places but the last one that must be compared.
        for one_size, other_size in ((1, 1), (2, 3), (5, 1), (4, 6)):
            total = one_size + other_size
            roots = range(1, total + 1)
            shares = [Fraction(1, prod(root - other for other in roots if other != root)) for root in roots]
            rows = []
            for places, sign in ((range(one_size), 1), (range(one_size, total), -1)):
                first = [sum(sign * shares[at] * roots[at] ** place for at in places) for place in range(len(places))]
                rows.append(Row(Bag.of(*[roots[at] for at in places]), *pairs(first)))
            self.assertEqual(first_difference(*rows), total - 1)

    def test_long_numbers_do_not_exceed_digits(self):
        one, other = Row(Bag.of(10 ** 99), 1), Row(Bag.of(10 ** 99 + 1), 1)
        self.assertEqual(first_difference(one, other), 1)
        wide = Row(Bag.of(*[1] * 40), *range(40))
        self.assertIsNone(first_difference(wide, Row(Bag.of(*[1] * 2, *[0] * 38), *range(40))))


class Follows(BagCase):
    def test_rows_follow_their_bags(self):
        samples = Samples(714)
        for _ in range(60):
            row = random_row(samples, samples.random.randrange(6))
            terms = row.terms(30)
            self.assertIs(follows(row.bag, terms), True)
            self.assertIs(follows(row.bag, tuple(terms)), True)
            self.assertIs(follows(row.bag, [(-3 * above, -3 * below) for above, below in terms]), True)
            self.assertIs(follows(row.bag | Bag.of(2), terms), True)
            terms[29] = pair(fraction(terms[29]) + 1)
            self.assertIs(follows(row.bag, terms), False)

    def test_each_place_counts(self):
        terms = [1, 1, 2, 3, 5, 8, 13]
        self.assertIs(follows(GOLDEN, terms), True)
        for place in range(7):
            changed = terms[:place] + [terms[place] + 1] + terms[place + 1:]
            self.assertIs(follows(GOLDEN, changed), False, place)

    def test_short_lists(self):
        for numbers in ([], [5], [5, 7], ()):
            self.assertIs(follows(GOLDEN, numbers), True)
        self.assertIs(follows(GOLDEN, [5, 7, 12]), True)
        self.assertIs(follows(GOLDEN, [5, 7, 13]), False)
        self.assertIs(follows(Bag.of(*[1] * 40), list(range(40))), True)

    def test_the_empty_bag(self):
        self.assertIs(follows(EMPTY, []), True)
        self.assertIs(follows(EMPTY, [0, (0, 5)]), True)
        self.assertIs(follows(EMPTY, [0, 0, (1, 5)]), False)
        self.assertIs(follows(bag=EMPTY, numbers=[1]), False)

    def test_invalid_numbers(self):
        for wrong in WRONG:
            for numbers in ([wrong], [1, 5, 77, wrong], (wrong, 1, 2, 3)):
                self.assert_raises(InvalidNumber, follows, GOLDEN, numbers)
                self.assert_raises(InvalidNumber, follows, EMPTY, numbers)

    def test_long_lists(self):
        self.assertIs(follows(Bag.of((1, 2)), [(1, 2 ** at) for at in range(398)]), True)
        self.assertIs(follows(Bag.of((1, 2)), [(3, 2 ** at) for at in range(397)] + [0]), False)
        self.assertIs(follows(Bag.of(10 ** 99), [1, 10 ** 99]), True)
        numbers = [5, 7, 9]
        follows(GOLDEN, numbers)
        self.assertEqual(numbers, [5, 7, 9])


if __name__ == "__main__":
    unittest.main()
