"""What several tests need: rationals, polynomials and bags as fractions, and samples of them."""

import unittest
from fractions import Fraction
from math import lcm
from random import Random

from rootbags.bags import Bag
from rootbags.errors import BagError, DigitsExceeded, SizeExceeded


def fraction(value):
    """The fraction of a rational as the document allows it to be passed."""
    if isinstance(value, int):
        return Fraction(value)
    return Fraction(value[0], value[1])


def pair(value):
    return (value.numerator, value.denominator)


def fractions(poly):
    """The fractions of a polynomial, without zeros at its end."""
    return trimmed([fraction(value) for value in poly])


def trimmed(values):
    values = list(values)
    while values and values[-1] == 0:
        values.pop()
    return values


def polynomial(values):
    """The polynomial of some fractions, as the package returns it."""
    return tuple(pair(value) for value in trimmed(values))


def plus(one, other):
    longer = max(len(one), len(other))
    one = list(one) + [Fraction(0)] * (longer - len(one))
    other = list(other) + [Fraction(0)] * (longer - len(other))
    return trimmed([left + right for left, right in zip(one, other)])


def times(one, other):
    values = [Fraction(0)] * max(0, len(one) + len(other) - 1)
    for at, left in enumerate(one):
        for shift, right in enumerate(other):
            values[at + shift] += left * right
    return trimmed(values)


def remainder(one, other):
    """The remainder by the school method, over fractions."""
    rest = trimmed(one)
    while len(rest) >= len(other):
        factor = rest[-1] / other[-1]
        shift = [Fraction(0)] * (len(rest) - len(other))
        rest = plus(rest, shift + [-factor * value for value in other])
    return rest


def divisor(one, other):
    """The greatest common divisor by the school method, over fractions."""
    one, other = trimmed(one), trimmed(other)
    while other:
        one, other = other, remainder(one, other)
    return [value / one[-1] for value in one]


class BagCase(unittest.TestCase):
    """Tests of what the package raises."""

    def assert_raises(self, error, call, *arguments, **named):
        """Return the error of a call, which has the limit of the document if it is one for a limit."""
        with self.assertRaises(error) as caught:
            call(*arguments, **named)
        if error is SizeExceeded:
            self.assertEqual(caught.exception.limit, 40)
        if error is DigitsExceeded:
            self.assertEqual(caught.exception.limit, 100)
        return caught.exception


class Samples:
    """Random arguments, the same ones in each run."""

    def __init__(self, seed):
        self.random = Random(seed)

    def number(self, digits=3):
        return self.random.randrange(-10 ** digits, 10 ** digits + 1)

    def nonzero(self, digits=3):
        return self.number(digits) or 1

    def rational(self, digits=2):
        """An integer, or a pair that need not be in lowest terms, with a denominator of either sign."""
        choice = self.random.randrange(5)
        if choice == 0:
            return 0
        if choice == 1:
            return self.number(digits)
        factor = self.nonzero(1)
        return (self.number(digits) * factor, self.nonzero(digits) * factor)

    def roots(self, many):
        """So many small fractions, some of them zero or equal."""
        return [Fraction(self.random.randrange(-4, 5), self.random.choice([1, 1, 2, 3])) for _ in range(many)]

    def bag(self, size, most=3):
        """A bag of roots that are hardly ever rational, with small coefficients."""
        values = [self.random.randrange(-most, most + 1) for _ in range(size)]
        return Bag((*values, self.random.choice([1, 1, 2, 3])))

    def poly(self, most=7, digits=2):
        """A polynomial of none to most coefficients, with or without zeros at its end."""
        values = [self.rational(digits) for _ in range(self.random.randrange(most + 1))]
        zeros = self.random.choice([[], [], [0], [0, (0, -3)]])
        return tuple(values + zeros)


def polynomial_of_roots(roots):
    """The fractions of the monic polynomial with these roots."""
    values = [Fraction(1)]
    for root in roots:
        values = times(values, [-root, Fraction(1)])
    return values


def rationals(values):
    """Some fractions as the rationals that are passed."""
    return [pair(Fraction(value)) for value in values]


def bag_of(values):
    """The bag of some fractions."""
    return Bag.of(*rationals(values))


def expected(roots):
    """What is found for a bag of fractions: its coefficients, or the code of the error."""
    if len(roots) > 40:
        return "SizeExceeded"
    values = polynomial_of_roots([Fraction(root) for root in roots])
    whole = lcm(*[value.denominator for value in values])
    if any(len(str(abs(number))) > 100 for number in [whole] + [value * whole for value in values]):
        return "DigitsExceeded"
    return [pair(value) for value in values]


def found(call, *arguments, **named):
    """The coefficients of the bag that a call returns, or the code of its error."""
    try:
        return call(*arguments, **named).coefficients()
    except BagError as error:
        return error.code


def digits(many, last=7):
    """A number with so many digits, whose last one is last."""
    return 10 ** (many - 1) + last


def roots_of_unity(*exponents):
    """The integers of the product of x ** exponent - 1 over the exponents."""
    numbers = [Fraction(1)]
    for exponent in exponents:
        numbers = times(numbers, [Fraction(-1)] + [Fraction(0)] * (exponent - 1) + [Fraction(1)])
    return numbers


def with_long_root(numbers):
    """The bag of the roots of a polynomial with small integers, and of one number with 100 digits."""
    return Bag(polynomial(times(numbers, [Fraction(4 * 10 ** 99), Fraction(1)])))


def all_ones(*sizes):
    """The integers of the product of 1 + x + x ** 2 + .. with so many terms, over the sizes."""
    numbers = [Fraction(1)]
    for size in sizes:
        numbers = times(numbers, [Fraction(1)] * size)
    return numbers


# Parts of a bag can have more digits than the bag. LONG_POWERS and LONG_ODD have coefficients of 100 digits. What they
# share, five times the number 1 and the long number, has some of 101 digits: (x - 1) ** 5 has the coefficient 10.
LONG_POWERS = with_long_root(roots_of_unity(1, 2, 4, 8, 16))
LONG_ODD = with_long_root(roots_of_unity(1, 3, 5, 7, 9))
# What LONG_POWERS has besides that.
SHORT_REST = Bag(polynomial(all_ones(1, 2, 4, 8, 16)))
# The number 1 twice, and others once: the coefficients of the distinct numbers have up to 101 digits.
LONG_TWICE = with_long_root(times(roots_of_unity(1, 4), all_ones(3, 7)))
