import unittest
from fractions import Fraction

from rootbags.bags import Bag
from rootbags.errors import (DigitsExceeded, InvalidCount, InvalidNumber, InvalidPolynomial, InvalidSums,
                             SizeExceeded)
from support import (LONG_ODD, LONG_POWERS, BagCase, Samples, bag_of, digits, fraction, pair,
                     polynomial_of_roots)

SQRT = Bag((-2, 0, 1))
WRONG = ((1, 0), (0, 0), (-7, 0))


class Construction(BagCase):
    def test_the_polynomial_is_divided_by_its_last_coefficient(self):
        self.assertEqual(Bag((-4, 0, 2)).coefficients(), [(-2, 1), (0, 1), (1, 1)])
        self.assertEqual(Bag((1, -3)).coefficients(), [(-1, 3), (1, 1)])

    def test_integers_and_pairs_that_are_not_in_lowest_terms(self):
        self.assertEqual(Bag(((6, -4), (10, 5), (-3, -3))).coefficients(), [(-3, 2), (2, 1), (1, 1)])
        self.assertEqual(Bag(((1, 2), (1, 3))), Bag((3, 2)))

    def test_zeros_at_the_end_have_no_effect(self):
        for zeros in ((0,), (0, 0), ((0, -5), 0), (0,) * 60):
            self.assertEqual(Bag((-2, 0, 1) + zeros), SQRT)
            self.assertEqual(Bag((-2, 0, 1) + zeros).size, 2)

    def test_multiples_are_equal(self):
        for factor in (-1, 7, (2, 3), (-5, 10 ** 50), 10 ** 119):
            values = [fraction(factor) * value for value in (-2, 0, 1)]
            self.assertEqual(Bag(tuple(pair(value) for value in values)), SQRT)

    def test_constants_give_the_empty_bag(self):
        for poly in ((1,), (-7,), ((2, 3), 0), (10 ** 119, 0, 0)):
            self.assertEqual(Bag(poly).coefficients(), [(1, 1)])
            self.assertEqual(Bag(poly), Bag.of())

    def test_zero_is_no_polynomial_of_a_bag(self):
        for poly in ((), (0,), (0, 0, (0, -3)), (0,) * 50):
            self.assert_raises(InvalidPolynomial, Bag, poly)

    def test_invalid_numbers_come_first(self):
        for wrong in WRONG:
            for poly in ((wrong,), (0, wrong), (wrong, 0, 0), (1,) * 50 + (wrong,), (digits(101), wrong, 1),
                         (1, 2, wrong)):
                self.assert_raises(InvalidNumber, Bag, poly)

    def test_lists_that_are_changed_afterwards(self):
        parts = [-2, 0, 1]
        bag = Bag(parts)
        parts[0] = 5
        parts.append(7)
        self.assertEqual(bag, SQRT)
        bag.coefficients().append((9, 1))
        bag.coefficients()[0] = (9, 1)
        self.assertEqual(bag.coefficients(), [(-2, 1), (0, 1), (1, 1)])

    def test_arguments_are_not_changed(self):
        parts = [(4, 2), (-6, -3), 0]
        Bag(parts)
        self.assertEqual(parts, [(4, 2), (-6, -3), 0])

    def test_names_and_class_values(self):
        self.assertEqual(Bag(parts=(-4, 0, 2)), SQRT)
        self.assertEqual((Bag.MOST, SQRT.MOST), (40, 40))

    def test_samples(self):
        samples = Samples(51)
        for _ in range(1000):
            poly = samples.poly()
            values = [fraction(value) for value in poly]
            while values and values[-1] == 0:
                values.pop()
            if values:
                self.assertEqual(Bag(poly).coefficients(), [pair(value / values[-1]) for value in values])


class Of(BagCase):
    def test_plain_numbers(self):
        self.assertEqual(Bag.of(1, 2).coefficients(), [(2, 1), (-3, 1), (1, 1)])
        self.assertEqual(Bag.of((2, -4)).coefficients(), [(1, 2), (1, 1)])
        self.assertEqual(Bag.of().coefficients(), [(1, 1)])
        self.assertEqual(Bag.of(0, 0).coefficients(), [(0, 1), (0, 1), (1, 1)])

    def test_the_order_of_the_numbers_has_no_effect(self):
        self.assertEqual(Bag.of(1, (1, 2), -3, 1), Bag.of((-3, 1), 1, (5, 5), (2, 4)))
        self.assertNotEqual(Bag.of(1, 2, 2), Bag.of(1, 1, 2))

    def test_samples(self):
        samples = Samples(52)
        for _ in range(300):
            roots = samples.roots(samples.random.randrange(12))
            self.assertEqual(bag_of(roots).coefficients(), [pair(value) for value in polynomial_of_roots(roots)])

    def test_errors_in_their_order(self):
        for wrong in WRONG:
            self.assert_raises(InvalidNumber, Bag.of, wrong)
            self.assert_raises(InvalidNumber, Bag.of, *[1] * 50, wrong)
            self.assert_raises(InvalidNumber, Bag.of, 10 ** 110, wrong)
        self.assert_raises(SizeExceeded, Bag.of, *[10 ** 110] * 41)
        self.assert_raises(DigitsExceeded, Bag.of, *[10 ** 110] * 40)


class OfSums(BagCase):
    def test_plain_sums(self):
        self.assertEqual(Bag.of_sums([2, 3, 5]), Bag.of(1, 2))
        self.assertEqual(Bag.of_sums((2, 0, 4)), SQRT)
        self.assertEqual(Bag.of_sums([0]), Bag.of())
        self.assertEqual(Bag.of_sums(sums=[1, (3, -6)]), Bag.of((-1, 2)))

    def test_pairs_that_are_not_in_lowest_terms(self):
        self.assertEqual(Bag.of_sums([(4, 2), (-6, -2), (50, 10)]), Bag.of(1, 2))
        self.assertEqual(Bag.of_sums([(-3, -3), (10, 4)]), Bag.of((5, 2)))
        self.assertEqual(Bag.of_sums([(0, -4)]), Bag.of())

    def test_each_list_of_rationals_has_a_bag(self):
        samples = Samples(53)
        for _ in range(300):
            size = samples.random.randrange(7)
            sums = [size] + [samples.rational(1) for _ in range(size)]
            values = [fraction(value) for value in sums]
            falling = [Fraction(1)]
            for at in range(1, size + 1):
                falling.append(-sum(falling[at - k] * values[k] for k in range(1, at + 1)) / at)
            self.assertEqual(Bag.of_sums(sums).coefficients(), [pair(value) for value in falling[::-1]], sums)

    def test_sums_of_bags_give_the_bags(self):
        samples = Samples(54)
        for size in range(41):
            bag = samples.bag(size)
            self.assertEqual(Bag.of_sums(bag.power_sums()), bag)
        long = Bag((*[samples.nonzero(99) for _ in range(40)], digits(100)))
        self.assertEqual(Bag.of_sums(long.power_sums()), long)

    def test_lists_that_are_not_sums(self):
        for sums in ([], (), [1], [0, 1], [2, 1], [(1, 2), 1], [-1], [3, 1, 1], [(3, 2), 1], [41], [41] + [0] * 40):
            self.assert_raises(InvalidSums, Bag.of_sums, sums)

    def test_errors_in_their_order(self):
        for wrong in WRONG:
            self.assert_raises(InvalidNumber, Bag.of_sums, [wrong])
            self.assert_raises(InvalidNumber, Bag.of_sums, [5, wrong])
            self.assert_raises(InvalidNumber, Bag.of_sums, [41] + [10 ** 110] * 40 + [wrong])
        self.assert_raises(InvalidSums, Bag.of_sums, [40] + [10 ** 110] * 41)
        self.assert_raises(SizeExceeded, Bag.of_sums, [41] + [10 ** 110] * 41)
        self.assert_raises(DigitsExceeded, Bag.of_sums, [40] + [10 ** 110] * 40)
        self.assert_raises(DigitsExceeded, Bag.of_sums, [40] + [(10 ** 90, k) for k in range(10 ** 90, 10 ** 90 + 40)])
        self.assert_raises(DigitsExceeded, Bag.of_sums, [40] + [0] * 39 + [10 ** 110])

    def test_lists_that_are_changed_afterwards(self):
        sums = [2, 3, 5]
        bag = Bag.of_sums(sums)
        self.assertEqual(sums, [2, 3, 5])
        sums[1] = 7
        self.assertEqual(bag, Bag.of(1, 2))


class Reading(BagCase):
    def test_size_length_truth_and_text(self):
        for size in (0, 1, 2, 3, 39, 40):
            bag = Bag.of(*range(size)) if size < 30 else Bag((1,) * (size + 1))
            self.assertEqual((bag.size, len(bag), bool(bag)), (size, size, size > 0))
            self.assertEqual(repr(bag), f"Bag({size} numbers)")
            self.assertEqual(len(bag.coefficients()), size + 1)

    def test_equal_and_unequal(self):
        self.assertTrue(Bag.of(1, 2) == Bag((2, -3, 1)))
        self.assertFalse(Bag.of(1, 2) != Bag((2, -3, 1)))
        self.assertFalse(Bag.of(1, 2) == Bag.of(1))
        self.assertTrue(Bag.of(1, 2) != Bag.of(1))
        self.assertTrue(Bag.of(0) != Bag.of())

    def test_a_bag_is_equal_to_nothing_else(self):
        bag = Bag.of(1, 2)
        for other in (None, 2, "Bag(2 numbers)", (2, -3, 1), [2, -3, 1], ((2, 1), (-3, 1), (1, 1)), {}, object(),
                      bag.coefficients()):
            self.assertFalse(bag == other)
            self.assertFalse(other == bag)
            self.assertTrue(bag != other)
        self.assertFalse(Bag.of() == [])

    def test_coefficients_are_rationals_in_lowest_terms(self):
        self.assertEqual(Bag((2, 0, 3, 6)).coefficients(), [(1, 3), (0, 1), (1, 2), (1, 1)])
        self.assertEqual(Bag(((-1, 2), 5, -1)).coefficients(), [(1, 2), (-5, 1), (1, 1)])

    def test_often_and_in(self):
        bag = Bag.of(1, (1, 2), 1, 0, -3, 0, 0)
        for value, many in ((1, 2), ((7, 7), 2), ((1, 2), 1), ((-2, -4), 1), (0, 3), ((0, -9), 3), (-3, 1), (3, 0),
                            ((1, 3), 0), (10 ** 119, 0), ((1, 10 ** 119), 0)):
            self.assertEqual(bag.often(value), many, value)
            self.assertEqual(bag.often(value=value), many, value)
            self.assertIs(value in bag, many > 0, value)
            self.assertIs(value not in bag, many == 0, value)

    def test_often_beside_numbers_that_are_not_rational(self):
        self.assertEqual((SQRT | Bag.of(2, 2)).often(2), 2)
        self.assertEqual([SQRT.often(value) for value in (0, 1, 2, (3, 2), -2)], [0] * 5)
        self.assertEqual(Bag.of().often(0), 0)
        self.assertNotIn(1, Bag.of())

    def test_often_and_in_with_invalid_numbers(self):
        for wrong in WRONG:
            for bag in (Bag.of(), Bag.of(0, 1), SQRT):
                self.assert_raises(InvalidNumber, bag.often, wrong)
                self.assert_raises(InvalidNumber, lambda: wrong in bag)
                self.assert_raises(InvalidNumber, lambda: wrong not in bag)


class PowerSums(BagCase):
    def test_plain_sums(self):
        self.assertEqual(SQRT.power_sums(), [(2, 1), (0, 1), (4, 1)])
        self.assertEqual(SQRT.power_sums(None), SQRT.power_sums())
        self.assertEqual(SQRT.power_sums(most=5), [(2, 1), (0, 1), (4, 1), (0, 1), (8, 1), (0, 1)])
        self.assertEqual(SQRT.power_sums(0), [(2, 1)])
        self.assertEqual(Bag.of().power_sums(), [(0, 1)])
        self.assertEqual(Bag.of().power_sums(2), [(0, 1), (0, 1), (0, 1)])
        self.assertEqual(Bag.of(0, 0).power_sums(2), [(2, 1), (0, 1), (0, 1)])

    def test_samples(self):
        samples = Samples(55)
        for _ in range(200):
            roots = samples.roots(samples.random.randrange(8))
            for most in (None, samples.random.randrange(30)):
                last = len(roots) if most is None else most
                sums = [pair(sum((root ** k for root in roots), Fraction(0))) for k in range(last + 1)]
                self.assertEqual(bag_of(roots).power_sums(most), sums)

    def test_the_range_of_most(self):
        bag = Bag.of((1, 2), 3)
        for most in range(0, 201):
            sums = bag.power_sums(most)
            self.assertEqual(len(sums), most + 1)
            self.assertEqual(sums[-1], pair(Fraction(1, 2) ** most + 3 ** most))
        for most in (-1, -2, 201, 202, 450, 10 ** 119, -10 ** 119):
            self.assertEqual(self.assert_raises(InvalidCount, bag.power_sums, most).many, most)

    def test_sums_of_long_bags_have_no_limit(self):
        samples = Samples(56)
        bag = Bag((*[samples.nonzero(99) for _ in range(40)], digits(100)))
        sums = bag.power_sums(80)
        values = [Fraction(0)] + [fraction(value) for value in bag.coefficients()[::-1]]
        for k in (1, 2, 40, 41, 80):
            total = sum(values[at + 1] * fraction(sums[k - at]) for at in range(0, min(k - 1, 40) + 1))
            if k <= 40:
                total += k * values[k + 1]
            self.assertEqual(total, 0, k)

    def test_returned_lists_are_new(self):
        bag = Bag.of(1, 2)
        bag.power_sums().append(5)
        bag.power_sums()[0] = 5
        self.assertEqual(bag.power_sums(), [(2, 1), (3, 1), (5, 1)])


class Limits(BagCase):
    def test_sizes(self):
        for size in (39, 40):
            self.assertEqual(Bag((1,) * (size + 1)).size, size)
            self.assertEqual(Bag((1,) * (size + 1) + (0,) * 20).size, size)
            self.assertEqual(Bag.of(*[1] * size).size, size)
            self.assertEqual(Bag.of_sums([size] + [0] * size).size, size)
        for size in (41, 42, 43, 200):
            self.assert_raises(SizeExceeded, Bag, (1,) * (size + 1))
            self.assert_raises(SizeExceeded, Bag, (0,) * size + ((1, 2),))
            self.assert_raises(SizeExceeded, Bag.of, *[1] * size)
            self.assert_raises(SizeExceeded, Bag.of_sums, [size] + [0] * size)

    def test_digits_of_a_coefficient(self):
        for many in (99, 100):
            for sign in (1, -1):
                self.assertEqual(Bag((sign * digits(many), 3, 1)).coefficients()[0], (sign * digits(many), 1))
                self.assertEqual(Bag.of(sign * digits(many)).size, 1)
                self.assertEqual(Bag.of_sums([1, sign * digits(many)]).size, 1)
        self.assertEqual(Bag((10 ** 100 - 1, 10 ** 100 - 1, 1)).size, 2)
        for number in (10 ** 100, digits(101), -10 ** 100, 10 ** 119):
            self.assert_raises(DigitsExceeded, Bag, (number, 3, 1))
            self.assert_raises(DigitsExceeded, Bag, (3, number, 1))
            self.assert_raises(DigitsExceeded, Bag.of, number)
            self.assert_raises(DigitsExceeded, Bag.of_sums, [1, number])

    def test_digits_of_the_least_common_denominator(self):
        for many in (99, 100):
            self.assertEqual(Bag((3, 1, digits(many))).coefficients()[1], (1, digits(many)))
            self.assertEqual(Bag.of((1, digits(many))).size, 1)
        self.assertEqual(Bag((1, 10 ** 100 - 1)).size, 1)
        for number in (10 ** 100, digits(101), -digits(101)):
            self.assert_raises(DigitsExceeded, Bag, (3, 1, number))
            self.assert_raises(DigitsExceeded, Bag, (3, (1, number), 1))
            self.assert_raises(DigitsExceeded, Bag.of, (1, number))

    def test_the_denominator_is_that_of_all_coefficients_together(self):
        one, other = 10 ** 50 + 7, 10 ** 50 + 9
        self.assertEqual(Bag(((1, one), 0, 1)).size, 2)
        self.assertEqual(Bag(((1, one), (1, one), 1)).size, 2)
        self.assert_raises(DigitsExceeded, Bag, ((1, one), (1, other), 1))
        self.assertEqual(Bag((10 ** 49, (1, 10 ** 50), 1)).size, 2)
        self.assert_raises(DigitsExceeded, Bag, (10 ** 50, (1, 10 ** 50), 1))

    def test_common_factors_do_not_count(self):
        factor = 10 ** 118
        self.assertEqual(Bag((2 * factor, 0, -factor)), Bag((-2, 0, 1)))
        self.assertEqual(Bag(((2, factor), (1, factor))), Bag.of(-2))

    def test_sizes_come_before_digits(self):
        self.assert_raises(SizeExceeded, Bag, (10 ** 110,) * 41 + (1,))
        self.assert_raises(SizeExceeded, Bag.of, *[10 ** 110] * 41)


class Operators(BagCase):
    def pairs_of_roots(self, seed, many):
        samples = Samples(seed)
        for _ in range(many):
            yield samples.roots(samples.random.randrange(7)), samples.roots(samples.random.randrange(7))

    def test_join(self):
        for one, other in self.pairs_of_roots(61, 100):
            self.assertEqual(bag_of(one) | bag_of(other), bag_of(one + other))
        self.assertEqual((SQRT | Bag((-3, 0, 1))).coefficients(), [(6, 1), (0, 1), (-5, 1), (0, 1), (1, 1)])
        self.assertEqual(Bag.of() | SQRT, SQRT)

    def test_common_numbers(self):
        for one, other in self.pairs_of_roots(62, 200):
            shared = [value for value in set(one) for _ in range(min(one.count(value), other.count(value)))]
            self.assertEqual(bag_of(one) & bag_of(other), bag_of(shared))
        self.assertEqual((SQRT | SQRT | Bag.of(1)) & (SQRT | Bag.of(2)), SQRT)
        self.assertEqual(SQRT & Bag((-3, 0, 1)), Bag.of())
        self.assertEqual(SQRT & Bag.of(), Bag.of())

    def test_opposite_numbers(self):
        for one, _ in self.pairs_of_roots(63, 50):
            self.assertEqual(-bag_of(one), bag_of([-value for value in one]))
        self.assertEqual(-SQRT, SQRT)
        self.assertEqual((-Bag((1, 2, 3, 4))).coefficients(), [(-1, 4), (1, 2), (-3, 4), (1, 1)])
        self.assertEqual(-Bag.of(), Bag.of())

    def test_sums_differences_and_products(self):
        for one, other in self.pairs_of_roots(64, 100):
            left, right = bag_of(one), bag_of(other)
            self.assertEqual(left + right, bag_of([a + b for a in one for b in other]))
            self.assertEqual(left - right, bag_of([a - b for a in one for b in other]))
            self.assertEqual(left * right, bag_of([a * b for a in one for b in other]))

    def test_numbers_that_are_not_rational(self):
        self.assertEqual((SQRT + Bag.of(1)).coefficients(), [(-1, 1), (-2, 1), (1, 1)])
        self.assertEqual((SQRT + Bag((-3, 0, 1))).coefficients(), [(1, 1), (0, 1), (-10, 1), (0, 1), (1, 1)])
        self.assertEqual(SQRT - SQRT, Bag.of(0, 0) | Bag((-8, 0, 1)))
        self.assertEqual(SQRT * SQRT, Bag.of(2, 2, -2, -2))

    def test_operands_do_not_change(self):
        one, other = Bag.of(1, (1, 2)), SQRT
        for _ in (one | other, one & other, -one, one + other, one - other, one * other):
            self.assertEqual((one, other), (Bag.of((1, 2), 1), Bag((-2, 0, 1))))

    def test_sizes(self):
        roots = {size: Bag((1,) * (size + 1)) for size in (0, 1, 4, 5, 6, 7, 8, 10, 20, 21, 39, 40)}
        for one, other in ((40, 0), (39, 1), (20, 20)):
            self.assertEqual((roots[one] | roots[other]).size, 40)
        for one, other in ((40, 1), (20, 21), (40, 40)):
            self.assert_raises(SizeExceeded, lambda: roots[one] | roots[other])
        for one, other in ((5, 8), (10, 4), (40, 1), (1, 39), (40, 0)):
            for result in (roots[one] + roots[other], roots[one] - roots[other], roots[one] * roots[other]):
                self.assertEqual(result.size, one * other)
        for one, other in ((6, 7), (21, 4), (40, 40)):
            self.assert_raises(SizeExceeded, lambda: roots[one] + roots[other])
            self.assert_raises(SizeExceeded, lambda: roots[one] - roots[other])
            self.assert_raises(SizeExceeded, lambda: roots[one] * roots[other])
        self.assertEqual((roots[40] & roots[40]).size, 40)
        self.assertEqual((-roots[40]).size, 40)

    def test_digits_of_the_result(self):
        short, long = Bag.of(10 ** 49), Bag.of(10 ** 50)
        self.assertEqual((short | long).coefficients()[0], (10 ** 99, 1))
        self.assertEqual(short * long, Bag.of(10 ** 99))
        self.assertEqual(Bag.of(10 ** 99) + Bag.of(10 ** 99 - 1), Bag.of(2 * 10 ** 99 - 1))
        self.assertEqual(Bag.of(10 ** 99) - Bag.of(10 ** 99), Bag.of(0))
        self.assert_raises(DigitsExceeded, lambda: long | long)
        self.assert_raises(DigitsExceeded, lambda: long * long)
        self.assert_raises(DigitsExceeded, lambda: Bag.of(10 ** 100 - 1) + Bag.of(1))
        self.assert_raises(DigitsExceeded, lambda: Bag.of(10 ** 100 - 1) - Bag.of(-1))
        self.assert_raises(DigitsExceeded, lambda: Bag.of((1, 10 ** 50 + 7)) + Bag.of((1, 10 ** 50 + 9)))

    def test_the_common_numbers_can_have_more_digits_than_both_bags(self):
        self.assert_raises(DigitsExceeded, lambda: LONG_POWERS & LONG_ODD)

    def test_sizes_come_before_digits(self):
        one, other = Bag.of(*[10 ** 12] * 8), Bag.of(*[10 ** 12] * 7)
        for call in (lambda: one + other, lambda: one - other, lambda: one * other):
            self.assert_raises(SizeExceeded, call)
        long = Bag((digits(100),) * 40 + (1,))
        self.assert_raises(SizeExceeded, lambda: long | long)


if __name__ == "__main__":
    unittest.main()
