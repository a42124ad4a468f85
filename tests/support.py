"""What several tests need: rationals and polynomials as fractions, and samples of them."""

from fractions import Fraction
from random import Random


def fraction(value):
    """The fraction of a rational as the document allows it to be passed."""
    if isinstance(value, int):
        return Fraction(value)
    return Fraction(value[0], value[1])


def pair(value):
    return (value.numerator, value.denominator)


def fractions(poly):
    """The fractions of a polynomial, without zeros at its end."""
    return trimmed([fraction(value) for value in poly])


def trimmed(values):
    values = list(values)
    while values and values[-1] == 0:
        values.pop()
    return values


def polynomial(values):
    """The polynomial of some fractions, as the package returns it."""
    return tuple(pair(value) for value in trimmed(values))


def plus(one, other):
    longer = max(len(one), len(other))
    one = list(one) + [Fraction(0)] * (longer - len(one))
    other = list(other) + [Fraction(0)] * (longer - len(other))
    return trimmed([left + right for left, right in zip(one, other)])


def times(one, other):
    values = [Fraction(0)] * max(0, len(one) + len(other) - 1)
    for at, left in enumerate(one):
        for shift, right in enumerate(other):
            values[at + shift] += left * right
    return trimmed(values)


def remainder(one, other):
    """The remainder by the school method, over fractions."""
    rest = trimmed(one)
    while len(rest) >= len(other):
        factor = rest[-1] / other[-1]
        shift = [Fraction(0)] * (len(rest) - len(other))
        rest = plus(rest, shift + [-factor * value for value in other])
    return rest


def divisor(one, other):
    """The greatest common divisor by the school method, over fractions."""
    one, other = trimmed(one), trimmed(other)
    while other:
        one, other = other, remainder(one, other)
    return [value / one[-1] for value in one]


class Samples:
    """Random arguments, the same ones in each run."""

    def __init__(self, seed):
        self.random = Random(seed)

    def number(self, digits=3):
        return self.random.randrange(-10 ** digits, 10 ** digits + 1)

    def nonzero(self, digits=3):
        return self.number(digits) or 1

    def rational(self, digits=2):
        """An integer, or a pair that need not be in lowest terms, with a denominator of either sign."""
        choice = self.random.randrange(5)
        if choice == 0:
            return 0
        if choice == 1:
            return self.number(digits)
        factor = self.nonzero(1)
        return (self.number(digits) * factor, self.nonzero(digits) * factor)

    def poly(self, most=7, digits=2):
        """A polynomial of none to most coefficients, with or without zeros at its end."""
        values = [self.rational(digits) for _ in range(self.random.randrange(most + 1))]
        zeros = self.random.choice([[], [], [0], [0, (0, -3)]])
        return tuple(values + zeros)
