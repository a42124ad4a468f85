"""Operations with bags, by sums of powers or by matrices."""

from rootbags.bags import Bag, check_size, early_sizes
from rootbags.choices import choices_of, chosen_product_numbers, chosen_sum_numbers
from rootbags.errors import ContainsZero, InvalidChoice, InvalidExponent, InvalidPolynomial, InvalidRoad
from rootbags.matrices import first_traces, matrix_of_values, numbers_of_matrix, pair_product_matrix, pair_sum_matrix
from rootbags.polynomials import whole_parts
from rootbags.sums import numbers_of_sums, power_numbers, value_numbers
from rootbags.wedges import chosen_product_matrix, chosen_sum_matrix
from rootbags.wholes import product

ROADS = ("sums", "matrices")
MAX_EXPONENT = 16
MAX_DEGREE = 6


def check_road(road):
    """Raise InvalidRoad for another text."""
    if road not in ROADS:
        raise InvalidRoad(road)


def check_exponent(exponent):
    """Raise InvalidExponent if an exponent is out of range."""
    if not 0 <= exponent <= MAX_EXPONENT:
        raise InvalidExponent(exponent)


def check_choice(bag, many):
    """Raise InvalidChoice for a negative number, and SizeExceeded if there are too many choices."""
    if many < 0:
        raise InvalidChoice(many)
    check_size(choices_of(bag.size, many))


def joined(*bags):
    """Return the join of any number of bags."""
    check_size(sum([bag.size for bag in bags]))
    found = [1]
    for bag in bags:
        found = product(found, bag.whole)
    return Bag(found)


def pair_sums(one, other, *, road="sums"):
    """Return the bag of the sums of all pairs."""
    check_road(road)
    check_size(one.size * other.size)
    if road == "sums":
        return one + other
    rows, scale = pair_sum_matrix(one.whole, other.whole, 1)
    return Bag(numbers_of_matrix(rows, scale))


def pair_differences(one, other, *, road="sums"):
    """Return the bag of the differences of all pairs."""
    check_road(road)
    check_size(one.size * other.size)
    if road == "sums":
        return one - other
    rows, scale = pair_sum_matrix(one.whole, other.whole, -1)
    return Bag(numbers_of_matrix(rows, scale))


def pair_products(one, other, *, road="sums"):
    """Return the bag of the products of all pairs."""
    check_road(road)
    check_size(one.size * other.size)
    if road == "sums":
        return one * other
    rows, scale = pair_product_matrix(one.whole, other.whole)
    return Bag(numbers_of_matrix(rows, scale))


def inverses(bag, *, road="sums"):
    """Return the bag of the reciprocals."""
    check_road(road)
    if bag.whole[0] == 0:
        raise ContainsZero()
    # The coefficients in the other order are those of the reciprocals, so that neither method is needed.
    return Bag(bag.whole[::-1])


def pair_quotients(one, other, *, road="sums"):
    """Return the bag of the quotients of all pairs."""
    return pair_products(one, inverses(other, road=road), road=road)


def values_by_matrix(bag, rule, rule_scale):
    """Return the bag of the values of an integer polynomial, divided by a scale, by matrices."""
    rows, scale = matrix_of_values(bag.whole, rule)
    # As in early_sizes: two coefficients are computed first, and raise DigitsExceeded if they have too many digits.
    Bag(numbers_of_sums(first_traces(rows), scale * rule_scale))
    return Bag(numbers_of_matrix(rows, scale * rule_scale))


def powers(bag, exponent, *, road="sums"):
    """Return the bag of the powers."""
    check_road(road)
    check_exponent(exponent)
    if road == "matrices":
        return values_by_matrix(bag, [0] * exponent + [1], 1)
    for few in early_sizes(bag.size):
        Bag(power_numbers(bag.whole, exponent, few))
    return Bag(power_numbers(bag.whole, exponent, bag.size))


def mapped(bag, rule, *, road="sums"):
    """Return the bag of the values of a polynomial."""
    check_road(road)
    numbers, scale = whole_parts(rule)
    if len(numbers) - 1 > MAX_DEGREE:
        raise InvalidPolynomial()
    if numbers == []:
        numbers = [0]
    if road == "matrices":
        return values_by_matrix(bag, numbers, scale)
    for few in early_sizes(bag.size):
        Bag(value_numbers(bag.whole, numbers, scale, few))
    return Bag(value_numbers(bag.whole, numbers, scale, bag.size))


def choice_sums(bag, many, *, road="sums"):
    """Return the bag of the sums over all choices of so many places."""
    check_road(road)
    check_choice(bag, many)
    if many > bag.size:
        return Bag.of()
    if road == "sums":
        return Bag(chosen_sum_numbers(bag.whole, many))
    return Bag(numbers_of_matrix(chosen_sum_matrix(bag.whole, many), bag.whole[-1]))


def choice_products(bag, many, *, road="sums"):
    """Return the bag of the products over all choices of so many places."""
    check_road(road)
    check_choice(bag, many)
    if many > bag.size:
        return Bag.of()
    if road == "sums":
        return Bag(chosen_product_numbers(bag.whole, many))
    return Bag(numbers_of_matrix(chosen_product_matrix(bag.whole, many), bag.whole[-1]))


def successive_powers(bag, most):
    """Yield the bags of the powers with the exponents 0 to most."""
    check_exponent(most)
    for exponent in range(most + 1):
        yield powers(bag, exponent)
