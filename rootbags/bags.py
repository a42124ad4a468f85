"""Bags: finitely many numbers that are known only together, as the roots of a polynomial."""

from rootbags.errors import DigitsExceeded, InvalidCount, InvalidPolynomial, InvalidSums, SizeExceeded
from rootbags.polynomials import whole_parts
from rootbags.rationals import as_pair, lowest, rational, shared_factor
from rootbags.sums import numbers_of_sums, pair_product_numbers, pair_sum_numbers
from rootbags.sums import root_scale, sums_of_powers, sums_scale
from rootbags.wholes import exact_quotient, powers_of, primitive, product, shared_whole, stretched, trimmed

MAX_SIZE = 40
MAX_DIGITS = 100
MAX_SUMS = 200
TOO_LONG = 10 ** 50 * 10 ** 50


def check_size(size):
    """Raise SizeExceeded if a bag would have too many numbers."""
    if size > MAX_SIZE:
        raise SizeExceeded(MAX_SIZE)


def early_sizes(size):
    """Return some smaller sizes, ascending.

    The highest coefficients of a polynomial need fewer sums than all of them. If they have too many digits, so has the
    whole polynomial, and this is found before very long numbers are computed.
    """
    return [few for few in [1, 4, 16] if few < size]


def numbers_of_pairs(pairs):
    """Return a multiple of the polynomial of the numbers with these sums, which are pairs, in lowest terms or not."""
    scale = sums_scale(pairs)
    powers = powers_of(scale, len(pairs) - 1)
    return numbers_of_sums([above * power // below for (above, below), power in zip(pairs, powers)], scale)


def lowest_by(number, power, base):
    """Return the rational number / power, where power has only prime factors of the base.

    What both share consists of factors of the base, which is much shorter: so this is quicker than lowest.
    """
    if number == 0:
        return (0, 1)
    above = number
    below = power
    shared = shared_factor(below, shared_factor(base, above))
    while shared > 1:
        above = above // shared
        below = below // shared
        # The square, so that a factor that both have very often is not divided out one by one.
        shared = shared_factor(below, shared_factor(shared * shared, above))
    return (above, below)


class Bag:
    """The bag of the roots of a polynomial.

    The attribute whole has its coefficients times their least common denominator, which is the last of them.
    """

    MOST = 40

    def __init__(self, parts):
        pairs = [as_pair(value) for value in parts]
        many = len(trimmed([pair[0] for pair in pairs]))
        if many == 0:
            raise InvalidPolynomial()
        check_size(many - 1)
        self.whole = primitive(whole_parts(pairs[:many])[0])
        if any([abs(number) >= TOO_LONG for number in self.whole]):
            raise DigitsExceeded(MAX_DIGITS)

    @classmethod
    def of(cls, *numbers):
        """Return the bag of these rationals."""
        pairs = [rational(number) for number in numbers]
        check_size(len(pairs))
        found = [1]
        for above, below in pairs:
            found = product(found, [-above, below])
        return cls(found)

    @classmethod
    def of_sums(cls, sums):
        """Return the bag whose numbers have these sums of the powers 0 to its size."""
        pairs = [as_pair(value) for value in sums]
        size = len(pairs) - 1
        if pairs == [] or pairs[0][0] != size * pairs[0][1]:
            raise InvalidSums()
        check_size(size)
        for few in early_sizes(size):
            cls(numbers_of_pairs(pairs[:few + 1]))
        return cls(numbers_of_pairs(pairs))

    @property
    def size(self):
        """How many numbers the bag has."""
        return len(self.whole) - 1

    def coefficients(self):
        """Return the list of the coefficients of the polynomial, the constant term first."""
        return [lowest(number, self.whole[-1]) for number in self.whole]

    def power_sums(self, most=None):
        """Return the list of the sums of the powers 0 to most; None means the size."""
        if most is None:
            most = self.size
        if not 0 <= most <= MAX_SUMS:
            raise InvalidCount(most)
        scale = root_scale(self.whole)
        sums = sums_of_powers(self.whole, scale, most)
        return [lowest_by(number, power, scale) for number, power in zip(sums, powers_of(scale, most))]

    def often(self, value):
        """Return how often a rational occurs."""
        above, below = rational(value)
        many = 0
        rest = exact_quotient(self.whole, [-above, below])
        while rest is not None:
            many = many + 1
            rest = exact_quotient(rest, [-above, below])
        return many

    def __len__(self):
        return len(self.whole[1:])

    def __eq__(self, other):
        return isinstance(other, Bag) and self.whole == other.whole

    def __repr__(self):
        return f"Bag({self.size} numbers)"

    def __contains__(self, x):
        return self.often(x) > 0

    def __or__(self, other):
        check_size(self.size + other.size)
        return Bag(product(self.whole, other.whole))

    def __and__(self, other):
        return Bag(shared_whole(self.whole, other.whole))

    def __neg__(self):
        return Bag(stretched(self.whole, -1))

    def __add__(self, other):
        check_size(self.size * other.size)
        return Bag(pair_sum_numbers(self.whole, other.whole))

    def __sub__(self, other):
        check_size(self.size * other.size)
        return Bag(pair_sum_numbers(self.whole, primitive(stretched(other.whole, -1))))

    def __mul__(self, other):
        check_size(self.size * other.size)
        return Bag(pair_product_numbers(self.whole, other.whole))
