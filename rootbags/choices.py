"""Sums and products over all choices of some roots of an integer polynomial, by sums of powers."""

from rootbags.sums import mixed_sums, numbers_of_sums, root_scale, sums_of_powers
from rootbags.wholes import powers_of, primitive, stretched


def choices_of(size, many):
    """Return the number of choices of so many places; many is not negative."""
    if many > size:
        return 0
    found = 1
    # There are as many choices of what is taken as of what is left.
    for at in range(min(many, size - many)):
        found = found * (size - at) // (at + 1)
    return found


def changed_by(totals, parts, times):
    """Return the totals plus the parts for an odd number of times, and minus them for an even one."""
    if times % 2 == 1:
        return [total + part for total, part in zip(totals, parts)]
    return [total - part for total, part in zip(totals, parts)]


def sums_of_chosen_sums(sums, many):
    """Return the sums of the sums of so many numbers, over all choices, from the sums of the numbers.

    A list of sums, each divided by the factorial of its exponent, is a series: that of e to the numbers times t. So
    mixed_sums multiplies, and Newton's identities give the series of the choices, choosing one number more each time.
    """
    found = [[1] + [0] * (len(sums) - 1)]
    for more in range(1, many + 1):
        totals = [0] * len(sums)
        for times in range(1, more + 1):
            parts = mixed_sums(found[more - times], stretched(sums, times))
            totals = changed_by(totals, parts, times)
        found.append([total // more for total in totals])
    return found[many]


def sums_of_chosen_products(sums, many, most):
    """Return the sums of the products of so many numbers, over all choices, for the exponents 0 to most.

    The sums of the numbers must go on to many times most. For each exponent, Newton's identities are those of the
    powers of the numbers.
    """
    found = [[1] * (most + 1)]
    for more in range(1, many + 1):
        totals = [0] * (most + 1)
        for times in range(1, more + 1):
            parts = [number * sums[times * at] for at, number in enumerate(found[more - times])]
            totals = changed_by(totals, parts, times)
        found.append([total // more for total in totals])
    return found[many]


def chosen_sum_numbers(numbers, many):
    """Return a multiple of the polynomial of the sums of so many roots; there are as many roots."""
    size = len(numbers) - 1
    most = choices_of(size, many)
    scale = root_scale(numbers)
    sums = sums_of_powers(numbers, scale, most)
    few = min(many, size - many)
    found = sums_of_chosen_sums(sums, few)
    if few < many:
        # To choose few is quicker: what is chosen has the sum of all roots less the sum of what is not chosen.
        found = mixed_sums(powers_of(sums[1], most), stretched(found, -1))
    return numbers_of_sums(found, scale)


def scaled_products(numbers, many):
    """Return the sums of the products of so many roots, and their scale."""
    most = choices_of(len(numbers) - 1, many)
    scale = root_scale(numbers)
    sums = sums_of_powers(numbers, scale, many * most)
    return sums_of_chosen_products(sums, many, most), powers_of(scale, many)[many]


def nonzero_product_numbers(numbers, many):
    """Return a multiple of the polynomial of the products of so many roots, none of which is zero."""
    size = len(numbers) - 1
    few = size - many
    if many <= few:
        found, scale = scaled_products(numbers, many)
        return numbers_of_sums(found, scale)
    # To choose few is quicker: the product of all roots times the reciprocals of what is not chosen.
    found, scale = scaled_products(primitive(numbers[::-1]), few)
    whole = -numbers[0] if size % 2 == 1 else numbers[0]
    return numbers_of_sums(stretched(found, whole), scale * numbers[-1])


def chosen_product_numbers(numbers, many):
    """Return a multiple of the polynomial of the products of so many roots; there are as many roots."""
    rest = numbers
    while rest[0] == 0:
        rest = rest[1:]
    zeros = choices_of(len(numbers) - 1, many) - choices_of(len(rest) - 1, many)
    if many > len(rest) - 1:
        return [0] * zeros + [1]
    return [0] * zeros + nonzero_product_numbers(rest, many)
