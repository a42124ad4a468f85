import unittest
from fractions import Fraction
from itertools import combinations
from math import comb, prod

from rootbags.bags import Bag
from rootbags.errors import (BagError, ContainsZero, DigitsExceeded, InvalidChoice, InvalidExponent, InvalidNumber,
                             InvalidPolynomial, InvalidRoad, SizeExceeded)
from rootbags.operations import (ROADS, choice_products, choice_sums, inverses, joined, mapped, pair_differences,
                                 pair_products, pair_quotients, pair_sums, powers, successive_powers)
from support import LONG_POWERS, SHORT_REST, BagCase, Samples, bag_of, digits, expected, found, rationals

SQRT = Bag((-2, 0, 1))
EMPTY = Bag.of()
LONG = Bag((*range(10 ** 99, 10 ** 99 + 40), 1))
WRONG = ((1, 0), (0, 0), (-7, 0))
PAIRS = (
    (pair_sums, lambda one, other: one + other),
    (pair_differences, lambda one, other: one - other),
    (pair_products, lambda one, other: one * other),
    (pair_quotients, lambda one, other: one / other),
)
CHOICES = ((choice_sums, lambda values: sum(values, Fraction(0))), (choice_products, prod))


class OperationCase(BagCase):
    def assert_on_both_roads(self, result, call, *arguments):
        """The result is a bag, a list of coefficients or the code of an error."""
        wanted = result.coefficients() if isinstance(result, Bag) else result
        for road in ROADS:
            self.assertEqual(found(call, *arguments, road=road), wanted, (call, arguments, road))
        self.assertEqual(found(call, *arguments), wanted)

    def assert_raised_on_both_roads(self, error, call, *arguments):
        for road in ROADS:
            caught = self.assert_raises(error, call, *arguments, road=road)
        return caught

    def assert_roads_agree(self, call, *arguments):
        bags = [call(*arguments, road=road) for road in ROADS]
        self.assertEqual(bags[0], bags[1], (call, arguments))
        return bags[0]


class Joined(OperationCase):
    def test_any_number_of_bags(self):
        self.assertEqual(joined(), EMPTY)
        self.assertEqual(joined(SQRT), SQRT)
        self.assertEqual(joined(Bag.of(1), EMPTY, Bag.of(2)), Bag.of(2, 1))
        self.assertEqual(joined(*[Bag.of((1, 2))] * 40), Bag.of(*[(1, 2)] * 40))
        self.assertEqual(joined(*[EMPTY] * 400, SQRT), SQRT)

    def test_samples(self):
        samples = Samples(71)
        for _ in range(50):
            lists = [samples.roots(samples.random.randrange(6)) for _ in range(samples.random.randrange(6))]
            self.assertEqual(joined(*[bag_of(roots) for roots in lists]), bag_of([x for roots in lists for x in roots]))

    def test_limits(self):
        tens = Bag.of(*range(10))
        self.assertEqual(joined(tens, tens, tens, Bag.of(*range(9))).size, 39)
        self.assertEqual(joined(tens, tens, tens, tens).size, 40)
        for rest in (Bag.of(1), Bag.of(1, 2), LONG):
            self.assert_raises(SizeExceeded, joined, tens, tens, tens, tens, rest)
        self.assert_raises(DigitsExceeded, joined, Bag.of(10 ** 50), Bag.of(10 ** 50))
        self.assertEqual(joined(Bag.of(10 ** 49), Bag.of(10 ** 50)).size, 2)

    def test_only_the_result_is_limited(self):
        ones, long = Bag.of(1, 1, 1, 1, 1), Bag.of(-4 * 10 ** 99)
        self.assert_raises(DigitsExceeded, joined, ones, long)
        self.assertEqual(joined(ones, long, SHORT_REST), LONG_POWERS)


class Pairs(OperationCase):
    def test_rationals(self):
        samples = Samples(72)
        for _ in range(120):
            one = samples.roots(samples.random.randrange(7))
            other = samples.roots(samples.random.randrange(7))
            for call, worth in PAIRS:
                if call == pair_quotients and 0 in other:
                    result = "ContainsZero"
                else:
                    result = expected([worth(a, b) for a in one for b in other])
                self.assert_on_both_roads(result, call, bag_of(one), bag_of(other))

    def test_sizes_near_the_limit(self):
        samples = Samples(73)
        for sizes in ((5, 8), (8, 5), (4, 10), (2, 20), (40, 1), (1, 40), (39, 1), (13, 3), (19, 2), (40, 0), (0, 40)):
            one = [Fraction(samples.random.randrange(-2, 3)) for _ in range(sizes[0])]
            other = [Fraction(samples.random.choice([-2, -1, 1, 2])) for _ in range(sizes[1])]
            for call, worth in PAIRS:
                result = expected([worth(a, b) for a in one for b in other])
                self.assert_on_both_roads(result, call, bag_of(one), bag_of(other))
        for sizes in ((41 // 2 + 1, 2), (6, 7), (7, 6), (14, 3), (40, 2), (40, 40)):
            for call, _ in PAIRS:
                self.assert_raised_on_both_roads(SizeExceeded, call, Bag.of(*[1] * sizes[0]), Bag.of(*[1] * sizes[1]))

    def test_other_polynomials_by_both_methods(self):
        samples = Samples(74)
        for sizes in ((2, 3), (3, 3), (4, 5), (6, 6), (5, 8), (40, 1), (1, 7), (2, 20)):
            one, other, third = samples.bag(sizes[0]), samples.bag(sizes[1]), samples.bag(1)
            for call, _ in PAIRS:
                if call == pair_quotients and 0 in other:
                    continue
                together = self.assert_roads_agree(call, one, other)
                self.assertEqual(together.size, sizes[0] * sizes[1])
                if (sizes[0] + 1) * sizes[1] <= 40:
                    # The pairs of two joined bags are the pairs of the one and those of the other.
                    self.assertEqual(call(one | third, other), together | call(third, other))

    def test_plain_irrational_pairs(self):
        other = Bag((-3, 0, 1))
        self.assert_on_both_roads(Bag((1, 0, -10, 0, 1)), pair_sums, SQRT, other)
        self.assert_on_both_roads(Bag((1, 0, -10, 0, 1)), pair_differences, SQRT, other)
        self.assert_on_both_roads([(36, 1), (0, 1), (-12, 1), (0, 1), (1, 1)], pair_products, SQRT, other)
        self.assert_on_both_roads(Bag((4, 0, -12, 0, 9)), pair_quotients, SQRT, other)
        self.assert_on_both_roads(Bag.of(1, 1, -1, -1), pair_quotients, SQRT, SQRT)
        self.assert_on_both_roads(Bag.of(0, 0) | Bag((-8, 0, 1)), pair_differences, SQRT, SQRT)

    def test_the_order_of_the_bags(self):
        one, other = Bag.of(1, 5), Bag.of(2)
        self.assert_on_both_roads(Bag.of(-1, 3), pair_differences, one, other)
        self.assert_on_both_roads(Bag.of((1, 2), (5, 2)), pair_quotients, one, other)
        for road in ROADS:
            self.assertEqual(pair_differences(other=one, one=other, road=road), Bag.of(1, -3))

    def test_digits_of_the_result(self):
        for number in (10 ** 50, -10 ** 50, Fraction(1, 10 ** 50)):
            self.assert_on_both_roads("DigitsExceeded", pair_products, bag_of([number]), bag_of([number]))
            inverse = 1 / Fraction(number)
            self.assert_on_both_roads("DigitsExceeded", pair_quotients, bag_of([number]), bag_of([inverse]))
        self.assert_on_both_roads(Bag.of(10 ** 99), pair_products, Bag.of(10 ** 50), Bag.of(10 ** 49))
        self.assert_on_both_roads(Bag.of(0), pair_differences, Bag.of(digits(100)), Bag.of(digits(100)))
        self.assert_on_both_roads("DigitsExceeded", pair_sums, Bag.of(10 ** 100 - 1), Bag.of(1))
        self.assert_on_both_roads("DigitsExceeded", pair_differences, Bag.of(10 ** 100 - 1), Bag.of(-1))
        self.assert_on_both_roads("DigitsExceeded", pair_sums, LONG, Bag.of(1))

    def test_sizes_come_before_digits(self):
        one = Bag.of(*[10 ** 14] * 7)
        for call, _ in PAIRS:
            self.assert_raised_on_both_roads(SizeExceeded, call, one, one)

    def test_zero_among_the_divisors_comes_before_sizes(self):
        zeros = (Bag.of(0), Bag.of(1, 0, 0), SQRT | Bag.of(0), Bag((0,) * 40 + (1,)), Bag((0, *[1] * 40)))
        for other in zeros:
            for one in (EMPTY, Bag.of(0), SQRT, Bag.of(*[10 ** 14] * 7), LONG):
                self.assert_raised_on_both_roads(ContainsZero, pair_quotients, one, other)
        self.assert_on_both_roads(Bag.of(0, 0), pair_quotients, Bag.of(0), SQRT)
        self.assert_on_both_roads(EMPTY, pair_quotients, Bag.of(0), EMPTY)


class Inverses(OperationCase):
    def test_plain_bags(self):
        self.assert_on_both_roads(Bag((1, 3, 1)), inverses, Bag((1, 3, 1)))
        self.assert_on_both_roads(Bag((1, 0, -2)), inverses, SQRT)
        self.assert_on_both_roads(EMPTY, inverses, EMPTY)
        self.assert_on_both_roads(Bag((1, digits(100))), inverses, Bag((digits(100), 1)))

    def test_samples(self):
        samples = Samples(75)
        for _ in range(50):
            roots = samples.roots(samples.random.randrange(8))
            result = "ContainsZero" if 0 in roots else expected([1 / root for root in roots])
            self.assert_on_both_roads(result, inverses, bag_of(roots))

    def test_zero(self):
        for bag in (Bag.of(0), Bag.of(0, 0, 5), SQRT | Bag.of(0)):
            self.assert_raised_on_both_roads(ContainsZero, inverses, bag)


class Powers(OperationCase):
    def test_plain_powers(self):
        self.assert_on_both_roads(Bag.of(2, 2), powers, SQRT, 2)
        self.assert_on_both_roads(Bag((-8, 0, 1)), powers, SQRT, 3)
        self.assert_on_both_roads(Bag.of(256, 256), powers, SQRT, 16)
        self.assert_on_both_roads(SQRT, powers, SQRT, 1)

    def test_the_exponent_zero(self):
        for bag in (EMPTY, Bag.of(0), Bag.of(0, 0, 5), SQRT, Bag((1,) * 41), LONG):
            self.assert_on_both_roads(Bag.of(*[1] * bag.size), powers, bag, 0)

    def test_rationals(self):
        samples = Samples(76)
        for exponent in range(17):
            for size in (0, 1, 2, 5, 6):
                roots = samples.roots(size)
                result = expected([root ** exponent for root in roots])
                self.assert_on_both_roads(result, powers, bag_of(roots), exponent)

    def test_other_polynomials_by_both_methods(self):
        samples = Samples(77)
        for exponent in range(17):
            bag = samples.bag(samples.random.randrange(7))
            self.assertEqual(self.assert_roads_agree(powers, bag, exponent).size, bag.size)
        for size, exponent in ((40, 2), (40, 3), (39, 5), (17, 16), (16, 4), (5, 16)):
            bag = Bag((*[samples.random.randrange(-1, 2) for _ in range(size)], 1))
            self.assert_roads_agree(powers, bag, exponent)

    def test_powers_of_powers(self):
        bag = Bag((1, -1, 2, 1))
        for road in ROADS:
            self.assertEqual(powers(powers(bag, 2, road=road), 3, road=road), powers(bag, 6, road=road))

    def test_the_range_of_the_exponent(self):
        for exponent in (-1, -2, 17, 18, 10 ** 119, -10 ** 119):
            for bag in (EMPTY, SQRT, LONG):
                error = self.assert_raised_on_both_roads(InvalidExponent, powers, bag, exponent)
                self.assertEqual(error.exponent, exponent)

    def test_digits_of_the_result(self):
        self.assert_on_both_roads(Bag.of(10 ** 98), powers, Bag.of(10 ** 49), 2)
        self.assert_on_both_roads("DigitsExceeded", powers, Bag.of(10 ** 50), 2)
        self.assert_on_both_roads("DigitsExceeded", powers, Bag.of((1, 10 ** 50)), 2)
        # The sum of the results is 0, and only later coefficients have too many digits.
        self.assert_on_both_roads("DigitsExceeded", powers, Bag((-10 ** 99, 0, 1)), 3)
        self.assert_on_both_roads("DigitsExceeded", powers, Bag((10 ** 99, *[0] * 39, 1)), 16)
        self.assert_on_both_roads(Bag((10 ** 99, *[0] * 39, 1)), powers, Bag((10 ** 99, *[0] * 39, 1)), 1)
        self.assert_on_both_roads("DigitsExceeded", powers, LONG, 16)
        self.assert_on_both_roads("DigitsExceeded", powers, Bag((*[digits(100)] * 40, digits(100, 9))), 16)

    def test_names_of_the_arguments(self):
        self.assertEqual(powers(exponent=2, bag=SQRT), Bag.of(2, 2))


class Mapped(OperationCase):
    def test_plain_rules(self):
        self.assert_on_both_roads([(-7, 1), (-2, 1), (1, 1)], mapped, SQRT, (1, 2))
        self.assert_on_both_roads(SQRT, mapped, SQRT, (0, 1))
        self.assert_on_both_roads(Bag.of((1, 2), (1, 2)), mapped, SQRT, ((3, 6),))
        self.assert_on_both_roads(Bag.of(0, 0), mapped, SQRT, (-2, 0, 1))
        for size in (0, 1, 2, 40):
            for zero in ((), (0,), ((0, -3), 0)):
                self.assert_on_both_roads(Bag.of(*[0] * size), mapped, Bag((1,) * (size + 1)), zero)

    def test_rationals(self):
        samples = Samples(78)
        for _ in range(150):
            roots = samples.roots(samples.random.randrange(7))
            rule = samples.roots(samples.random.randrange(8))
            values = [sum((value * root ** at for at, value in enumerate(rule)), Fraction(0)) for root in roots]
            zeros = samples.random.choice([(), (0,), (0, (0, -5))])
            self.assert_on_both_roads(expected(values), mapped, bag_of(roots), (*rationals(rule), *zeros))

    def test_other_polynomials_by_both_methods(self):
        samples = Samples(79)
        for _ in range(60):
            bag = samples.bag(samples.random.randrange(8))
            rule = tuple(samples.rational(1) for _ in range(samples.random.randrange(8)))
            self.assertEqual(self.assert_roads_agree(mapped, bag, rule).size, bag.size)
        for size in (17, 39, 40):
            bag = Bag((*[samples.random.randrange(-1, 2) for _ in range(size)], 1))
            self.assert_roads_agree(mapped, bag, (1, (1, 2)))
            self.assert_roads_agree(mapped, bag, (1, -1, 1))

    def test_powers_are_values(self):
        bag = Bag((3, -1, 2, 1))
        for exponent in range(7):
            self.assert_on_both_roads(powers(bag, exponent), mapped, bag, (0,) * exponent + (1,))

    def test_the_greatest_degree(self):
        for zeros in ((), (0,), (0,) * 100, ((0, -7),)):
            self.assert_on_both_roads(Bag.of(64), mapped, Bag.of(2), (0,) * 6 + (1,) + zeros)
            for bag in (EMPTY, Bag.of(2), SQRT, LONG):
                self.assert_raised_on_both_roads(InvalidPolynomial, mapped, bag, (0,) * 7 + (1,) + zeros)
        self.assert_raised_on_both_roads(InvalidPolynomial, mapped, SQRT, (1,) * 400)

    def test_invalid_numbers_come_before_the_degree(self):
        for wrong in WRONG:
            for rule in ((wrong,), (1, wrong), (wrong, 0), (1,) * 10 + (wrong,), (wrong,) + (1,) * 10):
                for bag in (EMPTY, SQRT, LONG):
                    self.assert_raised_on_both_roads(InvalidNumber, mapped, bag, rule)

    def test_digits_of_the_result(self):
        self.assert_on_both_roads(Bag.of(10 ** 99), mapped, Bag.of(1), (0, 10 ** 99))
        self.assert_on_both_roads("DigitsExceeded", mapped, Bag.of(1), (0, 10 ** 100))
        self.assert_on_both_roads("DigitsExceeded", mapped, SQRT, (0, 10 ** 60))
        self.assert_on_both_roads(Bag.of(1, 1), mapped, SQRT, (1 - 2 * 10 ** 110, 0, 10 ** 110))
        self.assert_on_both_roads("DigitsExceeded", mapped, LONG, (1, 2, 3, 4, 5, 6, 7))
        self.assert_on_both_roads("DigitsExceeded", mapped, LONG, tuple((1, 10 ** 119 + at) for at in range(7)))

    def test_names_of_the_arguments(self):
        self.assertEqual(mapped(rule=[1, 2], bag=SQRT), Bag((-7, -2, 1)))


class Choices(OperationCase):
    def values(self, roots, many, worth):
        return [Fraction(worth(values)) for values in combinations(roots, many)]

    def test_plain_choices(self):
        self.assert_on_both_roads(Bag.of(3, 5, 6), choice_sums, Bag.of(1, 2, 4), 2)
        self.assert_on_both_roads(Bag.of(2, 4, 8), choice_products, Bag.of(1, 2, 4), 2)
        self.assert_on_both_roads(Bag.of(0), choice_sums, SQRT, 2)
        self.assert_on_both_roads(Bag.of(-2), choice_products, SQRT, 2)

    def test_none_one_and_all(self):
        samples = Samples(81)
        for bag in (EMPTY, SQRT, Bag.of(0), Bag.of(0, 0, 3), samples.bag(5), samples.bag(39), samples.bag(40), LONG):
            self.assert_on_both_roads(Bag.of(0), choice_sums, bag, 0)
            self.assert_on_both_roads(Bag.of(1), choice_products, bag, 0)
            self.assert_on_both_roads(bag, choice_sums, bag, 1)
            self.assert_on_both_roads(bag, choice_products, bag, 1)
            last = bag.coefficients()[0][0]
            if bag and bag.coefficients()[-1] == (1, 1) and all(below == 1 for _, below in bag.coefficients()):
                self.assert_on_both_roads(Bag.of(-bag.coefficients()[-2][0]), choice_sums, bag, bag.size)
                self.assert_on_both_roads(Bag.of((-1) ** bag.size * last), choice_products, bag, bag.size)

    def test_more_places_than_there_are(self):
        for bag in (EMPTY, Bag.of(0), SQRT, Bag((1,) * 41), LONG):
            for more in (1, 2, 100, 10 ** 119):
                self.assert_on_both_roads(EMPTY, choice_sums, bag, bag.size + more)
                self.assert_on_both_roads(EMPTY, choice_products, bag, bag.size + more)

    def test_negative_numbers(self):
        for many in (-1, -2, -10 ** 119):
            for bag in (EMPTY, SQRT, LONG):
                for call, _ in CHOICES:
                    self.assertEqual(self.assert_raised_on_both_roads(InvalidChoice, call, bag, many).many, many)

    def test_rationals(self):
        samples = Samples(82)
        for size in range(8):
            for many in range(size + 1):
                for roots in (samples.roots(size), [root or Fraction(1, 2) for root in samples.roots(size)],
                              [Fraction(0)] * (size // 2) + samples.roots(size - size // 2)):
                    for call, worth in CHOICES:
                        self.assert_on_both_roads(expected(self.values(roots, many, worth)), call, bag_of(roots), many)

    def test_sizes_near_the_limit(self):
        for size, many in ((9, 2), (9, 7), (8, 6), (7, 3), (7, 4), (39, 38), (40, 39), (40, 1), (40, 40)):
            roots = [Fraction((-1) ** at) for at in range(size - 2)] + [Fraction(2), Fraction(1, 2)]
            for call, worth in CHOICES:
                self.assert_on_both_roads(expected(self.values(roots, many, worth)), call, bag_of(roots), many)
        for size, many in ((10, 2), (10, 8), (8, 4), (8, 3), (40, 2), (40, 20), (40, 38), (15, 5)):
            self.assertGreater(comb(size, many), 40)
            for call, _ in CHOICES:
                self.assert_raised_on_both_roads(SizeExceeded, call, Bag((1,) * (size + 1)), many)
                self.assert_raised_on_both_roads(SizeExceeded, call, Bag((digits(100),) * size + (1,)), many)

    def test_zeros_among_many_numbers(self):
        for zeros in (1, 2, 3, 39, 40):
            roots = [Fraction(0)] * zeros + [Fraction(-1)] * (40 - zeros)
            for many in (1, 39, 40):
                result = expected(self.values(roots, many, prod))
                self.assert_on_both_roads(result, choice_products, bag_of(roots), many)

    def test_other_polynomials_by_both_methods(self):
        samples = Samples(83)
        for size, many in ((3, 2), (4, 2), (5, 2), (5, 3), (6, 2), (6, 3), (6, 5), (7, 3), (7, 4), (9, 2), (9, 7),
                           (12, 11), (40, 39)):
            for call, _ in CHOICES:
                bag = samples.bag(size) if size < 12 else Bag((-1, *[samples.random.randrange(2) for _ in range(size)]))
                bag = bag if bag.size == size else Bag((1,) * (size + 1))
                self.assertEqual(self.assert_roads_agree(call, bag, many).size, comb(size, many))

    def test_choices_of_joined_bags(self):
        one, other = Bag((3, -1, 1)), Bag((1, 2, 0, 2))
        for road in ROADS:
            pairs = joined(choice_sums(one, 2, road=road), choice_sums(other, 2, road=road),
                           pair_sums(one, other, road=road))
            self.assertEqual(choice_sums(one | other, 2, road=road), pairs)
            pairs = joined(choice_products(one, 2, road=road), choice_products(other, 2, road=road),
                           pair_products(one, other, road=road))
            self.assertEqual(choice_products(one | other, 2, road=road), pairs)

    def test_digits_of_the_result(self):
        big = Bag.of(10 ** 40, 10 ** 40)
        self.assert_on_both_roads(Bag.of(10 ** 80), choice_products, big, 2)
        self.assert_on_both_roads("DigitsExceeded", choice_products, Bag.of(*[10 ** 18] * 5), 3)
        self.assert_on_both_roads("DigitsExceeded", choice_sums, Bag.of(*[10 ** 18] * 5), 2)
        self.assert_on_both_roads("DigitsExceeded", choice_products, Bag((10 ** 9, *[1] * 40)), 39)

    def test_names_of_the_arguments(self):
        self.assertEqual(choice_sums(many=2, bag=Bag.of(1, 2, 4)), Bag.of(3, 5, 6))
        self.assertEqual(choice_products(many=2, bag=Bag.of(1, 2, 4)), Bag.of(2, 4, 8))


class Roads(OperationCase):
    CALLS = (
        (pair_sums, (SQRT, SQRT)), (pair_sums, (LONG, LONG)),
        (pair_differences, (SQRT, SQRT)), (pair_differences, (LONG, LONG)),
        (pair_products, (SQRT, SQRT)), (pair_products, (LONG, LONG)),
        (pair_quotients, (SQRT, SQRT)), (pair_quotients, (LONG, Bag.of(0))), (pair_quotients, (LONG, LONG)),
        (inverses, (SQRT,)), (inverses, (Bag.of(0),)),
        (powers, (SQRT, 2)), (powers, (SQRT, 17)), (powers, (LONG, 16)),
        (mapped, (SQRT, (1, 2))), (mapped, (SQRT, ((1, 0),))), (mapped, (SQRT, (1,) * 9)), (mapped, (LONG, (1, 2, 3))),
        (choice_sums, (SQRT, 1)), (choice_sums, (SQRT, -1)), (choice_sums, (LONG, 2)), (choice_sums, (SQRT, 5)),
        (choice_products, (SQRT, 1)), (choice_products, (SQRT, -1)), (choice_products, (LONG, 2)),
        (choice_products, (SQRT, 5)),
    )

    def test_another_road_comes_before_every_other_error(self):
        for road in ("", "sum", "Sums", "matrix", "sums ", "matrices\n", "road"):
            for call, arguments in self.CALLS:
                self.assertEqual(self.assert_raises(InvalidRoad, call, *arguments, road=road).road, road)

    def test_the_road_is_passed_by_name_only(self):
        for call, arguments in self.CALLS:
            with self.assertRaises(TypeError):
                call(*arguments, "sums")


class SuccessivePowers(OperationCase):
    def test_all_exponents_in_order(self):
        bag = Bag((1, -1, 2, 1))
        for most in (0, 1, 2, 16):
            bags = [powers(bag, exponent) for exponent in range(most + 1)]
            self.assertEqual(list(successive_powers(bag, most)), bags)
        self.assertEqual(list(successive_powers(Bag.of(0), 2)), [Bag.of(1), Bag.of(0), Bag.of(0)])
        self.assertEqual(list(successive_powers(most=1, bag=SQRT)), [Bag.of(1, 1), SQRT])

    def test_errors_are_raised_when_it_is_iterated(self):
        for most in (-1, 17, 18, 10 ** 119):
            generator = successive_powers(SQRT, most)
            self.assertEqual(self.assert_raises(InvalidExponent, next, generator).exponent, most)

    def test_digits(self):
        generator = successive_powers(Bag.of(10 ** 40), 16)
        self.assertEqual([next(generator) for _ in range(3)], [Bag.of(1), Bag.of(10 ** 40), Bag.of(10 ** 80)])
        self.assert_raises(DigitsExceeded, next, generator)


class Results(OperationCase):
    def test_bags_that_are_passed_do_not_change(self):
        one, other = Bag((3, -1, 1)), Bag((1, 2, 5))
        calls = [(joined, (one, other)), (inverses, (one,)), (powers, (one, 3)), (mapped, (one, [1, 2, 3])),
                 (choice_sums, (one, 1)), (choice_products, (one, 2))]
        calls += [(call, (one, other)) for call, _ in PAIRS]
        for call, arguments in calls:
            first = call(*arguments)
            self.assertEqual(first, call(*arguments))
            self.assertEqual((one.coefficients(), other.coefficients()),
                             ([(3, 1), (-1, 1), (1, 1)], [(1, 5), (2, 5), (1, 1)]))

    def test_a_rule_is_not_changed(self):
        rule = [(4, 2), 1, 0]
        mapped(SQRT, rule)
        self.assertEqual(rule, [(4, 2), 1, 0])

    def test_errors_are_those_of_bags(self):
        for error in (ContainsZero, DigitsExceeded, InvalidChoice, InvalidExponent, InvalidRoad, SizeExceeded):
            self.assertTrue(issubclass(error, BagError))


if __name__ == "__main__":
    unittest.main()
