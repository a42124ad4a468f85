import unittest
from fractions import Fraction
from math import gcd

from rootbags.errors import InvalidNumber, InvalidPolynomial
from rootbags.polynomials import cofactors, divided, greatest_divisor, value_at
from rootbags.rationals import number_text
from support import Samples, divisor, fraction, fractions, pair, plus, polynomial, times

ZEROS = ((), (0,), (0, 0), ((0, -5), 0, (0, 1)))
WRONG = (((1, 0),), ((0, 0),), (1, (5, 0)), ((7, 0), 0), (1, 2, (0, 0)))


class PolynomialCase(unittest.TestCase):
    def assert_polynomial(self, poly):
        """A returned polynomial: a tuple of pairs in lowest terms, without zeros at its end."""
        self.assertIs(type(poly), tuple)
        for value in poly:
            self.assertIs(type(value), tuple)
            numerator, denominator = value
            self.assertIs(type(numerator), int)
            self.assertGreater(denominator, 0)
            self.assertEqual(gcd(numerator, denominator), 1)
        self.assertNotEqual(poly[-1:], ((0, 1),))

    def assert_invalid_number(self, function, *arguments):
        with self.assertRaises(InvalidNumber, msg=arguments):
            function(*arguments)


class ValueAt(PolynomialCase):
    def check(self, poly, place):
        expected = sum((fraction(value) * fraction(place) ** at for at, value in enumerate(poly)), Fraction(0))
        self.assertEqual(value_at(poly, place), pair(expected), (poly, place))

    def test_example(self):
        self.assertEqual(value_at((1, 0, 1), (1, 2)), (5, 4))

    def test_zero_polynomials(self):
        for poly in ZEROS:
            for place in (0, 5, (1, 2), (-6, -4)):
                self.assertEqual(value_at(poly, place), (0, 1))

    def test_place_zero_gives_the_constant_term(self):
        self.assertEqual(value_at(((6, -4), 7, 1), 0), (-3, 2))
        self.assertEqual(value_at((0, 7), (0, -3)), (0, 1))

    def test_samples(self):
        samples = Samples(11)
        for _ in range(3000):
            self.check(samples.poly(), samples.rational())

    def test_many_coefficients_and_long_numbers(self):
        samples = Samples(12)
        self.check(tuple(samples.number(2) for _ in range(450)), (-3, 7))
        self.check(samples.poly(20, 120), samples.rational(120))

    def test_long_results_can_be_written(self):
        found = value_at((0,) * 449 + (1,), 10 ** 119)
        self.assertEqual(number_text(found), "1" + "0" * (449 * 119))

    def test_denominator_zero(self):
        for poly in WRONG:
            self.assert_invalid_number(value_at, poly, 3)
        for poly in ((), (0,), (1, 2), WRONG[0]):
            self.assert_invalid_number(value_at, poly, (1, 0))
            self.assert_invalid_number(value_at, poly, (0, 0))

    def test_names_of_the_arguments(self):
        self.assertEqual(value_at(place=2, poly=(1, 0, 1)), (5, 1))
        self.assertEqual(value_at((1, 0, 1), place=2), (5, 1))


class Divided(PolynomialCase):
    def check(self, one, other):
        found = divided(one, other)
        self.assertIs(type(found), tuple)
        quotient, rest = found
        self.assert_polynomial(quotient)
        self.assert_polynomial(rest)
        self.assertTrue(rest == () or len(rest) < len(fractions(other)), (one, other))
        total = plus(times(fractions(quotient), fractions(other)), fractions(rest))
        self.assertEqual(total, fractions(one), (one, other))

    def test_example(self):
        self.assertEqual(divided((-1, 0, 1), (1, 1)), (((-1, 1), (1, 1)), ()))

    def test_plain_cases(self):
        self.assertEqual(divided((1, 2), (0, 0, 1)), ((), ((1, 1), (2, 1))))
        self.assertEqual(divided((3, 4, 5), (2,)), (((3, 2), (2, 1), (5, 2)), ()))
        self.assertEqual(divided((1, 0, 0, 1), (1, 2)), (((1, 8), (-1, 4), (1, 2)), ((7, 8),)))

    def test_zero_is_divided(self):
        for one in ZEROS:
            self.assertEqual(divided(one, (5, (1, 3))), ((), ()))
            self.assertEqual(divided(one, ((-2, 4),)), ((), ()))

    def test_samples(self):
        samples = Samples(21)
        for _ in range(4000):
            one, other = samples.poly(), samples.poly()
            if fractions(other):
                self.check(one, other)

    def test_divisors_leave_nothing(self):
        samples = Samples(22)
        for _ in range(500):
            one, other = samples.poly(), samples.poly()
            if fractions(other):
                whole = polynomial(times(fractions(one), fractions(other)))
                self.assertEqual(divided(whole, other), (polynomial(fractions(one)), ()))

    def test_many_coefficients_and_long_numbers(self):
        samples = Samples(23)
        self.check(tuple(samples.number(2) for _ in range(450)), (5, (1, 3), 3))
        self.check(tuple(samples.rational(120) for _ in range(8)), (samples.nonzero(120), samples.nonzero(120)))

    def test_division_by_zero(self):
        for other in ZEROS:
            for one in ZEROS + ((1, 2), ((6, -4),)):
                with self.assertRaises(InvalidPolynomial):
                    divided(one, other)

    def test_invalid_numbers_come_first(self):
        for wrong in WRONG:
            for other in ZEROS + ((1, 2), WRONG[0]):
                self.assert_invalid_number(divided, wrong, other)
            for one in ZEROS + ((1, 2),):
                self.assert_invalid_number(divided, one, wrong)

    def test_names_of_the_arguments(self):
        self.assertEqual(divided(other=(1, 1), one=(-1, 0, 1)), (((-1, 1), (1, 1)), ()))


class TwoPolynomials(PolynomialCase):
    """Samples for the greatest common divisor, with common factors and without them."""

    def cases(self, seed, many):
        samples = Samples(seed)
        for _ in range(many):
            one, other, shared = samples.poly(5), samples.poly(5), samples.poly(4)
            yield one, other
            yield (polynomial(times(fractions(one), fractions(shared))) + (0,),
                   polynomial(times(fractions(other), fractions(shared))))

    def assert_divisor(self, found, one, other):
        self.assert_polynomial(found)
        self.assertEqual(found, polynomial(divisor(fractions(one), fractions(other))), (one, other))
        self.assertIn(found[-1:], ((), ((1, 1),)))


class GreatestDivisor(TwoPolynomials):
    def test_example(self):
        self.assertEqual(greatest_divisor((-1, 0, 1), (2, 2)), ((1, 1), (1, 1)))

    def test_both_are_zero(self):
        for one in ZEROS:
            for other in ZEROS:
                self.assertEqual(greatest_divisor(one, other), ())

    def test_one_is_zero(self):
        for zero in ZEROS:
            self.assertEqual(greatest_divisor(zero, (4, (-2, 3), 0)), ((-6, 1), (1, 1)))
            self.assertEqual(greatest_divisor((4, (-2, 3), 0), zero), ((-6, 1), (1, 1)))
            self.assertEqual(greatest_divisor((-7,), zero), ((1, 1),))

    def test_constants(self):
        self.assertEqual(greatest_divisor((6,), (4,)), ((1, 1),))
        self.assertEqual(greatest_divisor((6, 3), ((1, -2),)), ((1, 1),))

    def test_samples(self):
        for one, other in self.cases(31, 1000):
            self.assert_divisor(greatest_divisor(one, other), one, other)

    def test_many_coefficients_and_long_numbers(self):
        samples = Samples(32)
        shared = [Fraction(samples.nonzero(50), samples.nonzero(50)) for _ in range(5)]
        one = times(shared, [Fraction(samples.nonzero(30)) for _ in range(10)])
        other = times(shared, [Fraction(samples.nonzero(30)) for _ in range(12)])
        found = greatest_divisor(polynomial(one), polynomial(other))
        self.assertEqual(found, polynomial([value / shared[-1] for value in shared]))
        self.assertEqual(greatest_divisor((-1,) + (0,) * 299 + (1,), (-1,) + (0,) * 199 + (1,)),
                         ((-1, 1),) + ((0, 1),) * 99 + ((1, 1),))

    def test_numbers_that_are_zero_modulo_a_prime(self):
        # The quick test for common roots takes all numbers modulo 2 ** 61 - 1.
        prime = 2 ** 61 - 1
        for shared in ([1, prime], [prime, 1], [3, 5 * prime, prime], [1, 0, 2 * prime]):
            for one, other in (([-1, 1], [-2, 1]), ([prime, 1], [0, 1]), ([1, prime], [1, 1]), ([1], [1, 5])):
                one, other, common = [[Fraction(number) for number in row] for row in (one, other, shared)]
                found = greatest_divisor(polynomial(times(one, common)), polynomial(times(other, common)))
                self.assertEqual(found, polynomial([value / common[-1] for value in common]))
        self.assertEqual(greatest_divisor((prime, 1), (2 * prime, 1)), ((1, 1),))
        self.assertEqual(greatest_divisor((0, 1), (prime, prime)), ((1, 1),))

    def test_denominator_zero(self):
        for wrong in WRONG:
            for right in ZEROS + ((1, 2),):
                self.assert_invalid_number(greatest_divisor, wrong, right)
                self.assert_invalid_number(greatest_divisor, right, wrong)

    def test_names_of_the_arguments(self):
        self.assertEqual(greatest_divisor(other=(2, 2), one=(-1, 0, 1)), ((1, 1), (1, 1)))


class Cofactors(TwoPolynomials):
    def check(self, one, other):
        found = cofactors(one, other)
        self.assertIs(type(found), tuple)
        shared, left, right = found
        self.assert_divisor(shared, one, other)
        self.assert_polynomial(left)
        self.assert_polynomial(right)
        total = plus(times(fractions(left), fractions(one)), times(fractions(right), fractions(other)))
        self.assertEqual(total, fractions(shared), (one, other))
        self.assertEqual(cofactors(one, other), found)

    def test_both_are_zero(self):
        for one in ZEROS:
            for other in ZEROS:
                self.check(one, other)
                self.assertEqual(cofactors(one, other)[0], ())

    def test_one_is_zero(self):
        for zero in ZEROS:
            for poly in ((3,), (4, (-2, 3), 0), ((6, -4), 0, 1)):
                self.check(zero, poly)
                self.check(poly, zero)

    def test_plain_cases(self):
        self.check((-1, 0, 1), (2, 2))
        self.check((1, 1), (1, 1))
        self.check((6,), (4,))
        self.check((0, 0, 5), (0, 0, 0, (1, 7)))

    def test_samples(self):
        for one, other in self.cases(41, 1000):
            self.check(one, other)

    def test_many_coefficients_and_long_numbers(self):
        samples = Samples(42)
        self.check(tuple(samples.number(100) for _ in range(12)), tuple(samples.number(100) for _ in range(12)))
        self.check(tuple(samples.number(1) for _ in range(40)), tuple(samples.number(1) for _ in range(41)))
        self.check((-1,) + (0,) * 299 + (1,), (-1,) + (0,) * 199 + (1,))

    def test_denominator_zero(self):
        for wrong in WRONG:
            for right in ZEROS + ((1, 2),):
                self.assert_invalid_number(cofactors, wrong, right)
                self.assert_invalid_number(cofactors, right, wrong)

    def test_names_of_the_arguments(self):
        self.assertEqual(cofactors(other=(2, 2), one=(-1, 0, 1)), cofactors((-1, 0, 1), (2, 2)))


if __name__ == "__main__":
    unittest.main()
