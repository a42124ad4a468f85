"""Rows: endless lists of rationals that follow bags."""

from rootbags.bags import Bag, lowest_by
from rootbags.errors import InvalidCount, InvalidExponent, InvalidModulus, InvalidPlace, InvalidRow, SharedDivisor
from rootbags.operations import MAX_EXPONENT, powers
from rootbags.rationals import over_one_scale, shared_factor
from rootbags.residues import term_by
from rootbags.sums import root_scale
from rootbags.wholes import content, powers_of, without_factor

MAX_TERMS = 400
FAR = 10 ** 40


def check_count(many, most):
    """Raise InvalidCount if a number of terms is out of range."""
    if not 0 <= many <= most:
        raise InvalidCount(many)


def check_place(place, most):
    """Raise InvalidPlace if a place is out of range."""
    if not 0 <= place <= most:
        raise InvalidPlace(place)


def base_powers(whole, base, many):
    """Return, for so many places, powers of the base of which the denominators of the terms of a row are divisors.

    whole is the polynomial of the bag, base the scale of its roots: the power whose exponent is the place would do for
    every polynomial. If the base is the last number, each term behind the first ones needs only one factor more.
    """
    size = len(whole) - 1
    ones = size - 1 if base == whole[-1] and size > 0 else 0
    return ([1] * ones + powers_of(base, many))[:many]


def next_number(whole, numbers, factors):
    """Return the next term of a row times its power, from as many terms before it as the bag has numbers.

    Each term is multiplied by its power; factors has, for each of them, the power of the next one divided by its own.
    """
    total = 0
    for coefficient, number, factor in zip(whole, numbers, factors):
        total = (total + coefficient * number) * factor
    return -(total // whole[-1])


def term_pairs(row, many):
    """Return the first terms of a row as pairs with positive denominators that need not be in lowest terms.

    Each denominator divides the next one, so that a common one is found quickly.
    """
    whole = row.bag.whole
    size = len(whole) - 1
    most = max(many, size)
    below = base_powers(whole, root_scale(whole), most)
    factors = [after // before for before, after in zip(below, below[1:])]
    found = [number * power for number, power in zip(row.numbers, below)]
    for place in range(size, most):
        found.append(next_number(whole, found[place - size:], factors[place - size:place]))
    return [(number, row.scale * power) for number, power in zip(found[:many], below)]


def lowest_terms(row, pairs):
    """Return the rationals of some pairs of term_pairs."""
    base = row.scale * root_scale(row.bag.whole)
    return [lowest_by(above, below, base) for above, below in pairs]


def first_difference(one, other):
    """Return the least place at which two rows differ, None if they are equal at all places."""
    # The differences follow the joined bag: if as many as it has numbers are zero, all of them are.
    many = one.bag.size + other.bag.size
    for place, (left, right) in enumerate(zip(term_pairs(one, many), term_pairs(other, many))):
        if left[0] * right[1] != right[0] * left[1]:
            return place
    return None


def follows(bag, numbers):
    """Return whether a list of rationals follows a bag as far as it goes."""
    terms = over_one_scale(numbers)[0]
    for first in range(len(terms) - bag.size):
        if sum([number * term for number, term in zip(bag.whole, terms[first:])]) != 0:
            return False
    return True


class Row:
    """The row with a bag and its first terms.

    The attribute numbers has the first terms times the attribute scale, their least common denominator.
    """

    def __init__(self, bag, *first):
        numbers, scale = over_one_scale(first)
        if len(numbers) != bag.size:
            raise InvalidRow()
        shared = content([scale] + numbers)
        self.bag = bag
        self.numbers = without_factor(numbers, shared)
        self.scale = scale // shared

    def terms(self, many):
        """Return the list of the first terms."""
        check_count(many, MAX_TERMS)
        return lowest_terms(self, term_pairs(self, many))

    def __call__(self, place):
        """Return the term at a place."""
        check_place(place, MAX_TERMS - 1)
        return lowest_terms(self, term_pairs(self, place + 1)[place:])[0]

    def walk(self, *, first=0, many=10):
        """Yield so many terms from the place first on."""
        if first < 0:
            raise InvalidPlace(first)
        check_count(many, MAX_TERMS - first)
        pairs = term_pairs(self, first + many)[first:]
        for term in lowest_terms(self, pairs):
            yield term

    def residue(self, place, modulus):
        """Return the term at a place by a modulus."""
        check_place(place, FAR)
        if not 1 <= modulus <= FAR:
            raise InvalidModulus(modulus)
        if shared_factor(modulus, self.bag.whole[-1] * self.scale) > 1:
            raise SharedDivisor(modulus)
        return term_by(self.bag.whole, self.numbers, self.scale, place, modulus)

    def __add__(self, other):
        bag = self.bag | other.bag
        first = [(one[0] * two[1] + two[0] * one[1], one[1] * two[1])
                 for one, two in zip(term_pairs(self, bag.size), term_pairs(other, bag.size))]
        return Row(bag, *first)

    def __mul__(self, other):
        bag = self.bag * other.bag
        first = [(one[0] * two[0], one[1] * two[1])
                 for one, two in zip(term_pairs(self, bag.size), term_pairs(other, bag.size))]
        return Row(bag, *first)

    def __neg__(self):
        first = [(-number, self.scale) for number in self.numbers]
        return Row(self.bag, *first)

    def __eq__(self, other):
        return (isinstance(other, Row) and self.bag == other.bag
                and self.numbers == other.numbers and self.scale == other.scale)

    def __len__(self):
        return len(self.numbers)

    def __repr__(self):
        return f"Row({len(self.numbers)} first terms)"

    def total(self):
        """Return the row of the sums of the terms up to each place."""
        bag = self.bag | Bag.of(1)
        first = []
        total = 0
        before = self.scale
        for above, below in term_pairs(self, bag.size):
            total = total * (below // before) + above
            before = below
            first.append((total, below))
        return Row(bag, *first)

    def every(self, step, *, first=0):
        """Return the row of the terms at the places first, first + step and so on."""
        if not 1 <= step <= MAX_EXPONENT:
            raise InvalidExponent(step)
        check_place(first, MAX_TERMS - 1)
        bag = powers(self.bag, step)
        chosen = term_pairs(self, first + step * bag.size)[first::step]
        return Row(bag, *chosen)

    def shifted(self, many=1):
        """Return the row without its first many terms."""
        check_count(many, MAX_TERMS)
        rest = term_pairs(self, many + self.bag.size)[many:]
        return Row(self.bag, *rest)
