"""Sums of powers of the roots of integer polynomials, and the polynomials that belong to sums.

The roots are multiplied by a positive integer, the scale, so that all sums are integers. A list of sums has the
sum of the powers with the exponent k at the index k. Nothing here changes an argument.
"""

from rootbags.rationals import least_multiple, shared_factor
from rootbags.wholes import powers_of, product


def left_over(number, base, exponent):
    """Return the integer divided by all that it shares with a power of the base."""
    rest = number
    for step in range(exponent):
        rest = rest // shared_factor(rest, base)
    return rest


def root_scale(numbers):
    """Return a scale for the roots of a primitive polynomial, a divisor of its last number."""
    lead = numbers[-1]
    scale = 1
    # The scale must make an integer of each coefficient, divided by lead, times its power with the exponent at.
    for at, number in enumerate(numbers[::-1]):
        rest = left_over(lead, scale, at)
        scale = scale * (rest // shared_factor(rest, number))
    return scale


def sums_scale(pairs):
    """Return the least scale, found factor by factor, that makes integers of some rational sums."""
    scale = 1
    for at, pair in enumerate(pairs):
        scale = scale * left_over(abs(pair[1]), scale, at)
    return scale


def monic_whole(numbers, scale):
    """Return the integer polynomial with the last number 1 whose roots are those of another one times the scale."""
    lead = numbers[-1]
    powers = powers_of(scale, len(numbers) - 1)
    return [number * power // lead for number, power in zip(numbers, powers[::-1])]


def sums_of_powers(numbers, scale, most):
    """Return the sums for the exponents 0 to most of the roots of a polynomial times the scale."""
    size = len(numbers) - 1
    # By the identities of Newton, with the coefficients from the highest one on.
    falling = monic_whole(numbers, scale)[::-1]
    sums = [size]
    for exponent in range(1, most + 1):
        many = min(exponent - 1, size)
        total = sum([falling[at] * sums[exponent - at] for at in range(1, many + 1)])
        if exponent <= size:
            total = total + exponent * falling[exponent]
        sums.append(-total)
    return sums


def numbers_of_sums(sums, scale):
    """Return a multiple of the polynomial of as many numbers as there are sums behind the first one.

    The identities of Newton divide by each exponent. So the coefficient at each place from the end is kept multiplied
    by the factorial of the place, which makes an integer of it whatever the sums are.
    """
    falling = [1]
    for place in range(1, len(sums)):
        total = 0
        factor = 1
        for at in range(1, place + 1):
            total = total - factor * falling[place - at] * sums[at]
            factor = factor * (place - at)
        falling.append(total)
    numbers = []
    factor = 1
    for place in range(len(sums) - 1, -1, -1):
        numbers.append(falling[place] * factor)
        factor = factor * place * scale
    return numbers


def mixed_sums(one, other):
    """Return the sums of the sums of all pairs, from two lists of sums with the same scale."""
    found = []
    choices = [1]
    for at in range(len(one)):
        parts = [many * left * right for many, left, right in zip(choices, one, other[at::-1])]
        found.append(sum(parts))
        choices = [1] + [many + more for many, more in zip(choices, choices[1:])] + [1]
    return found


def pair_sum_numbers(one, other):
    """Return a multiple of the polynomial of the sums of all pairs of roots."""
    scale = least_multiple(root_scale(one), root_scale(other))
    most = (len(one) - 1) * (len(other) - 1)
    left = sums_of_powers(one, scale, most)
    right = sums_of_powers(other, scale, most)
    return numbers_of_sums(mixed_sums(left, right), scale)


def pair_product_numbers(one, other):
    """Return a multiple of the polynomial of the products of all pairs of roots."""
    scale = root_scale(one)
    other_scale = root_scale(other)
    most = (len(one) - 1) * (len(other) - 1)
    left = sums_of_powers(one, scale, most)
    right = sums_of_powers(other, other_scale, most)
    return numbers_of_sums([first * second for first, second in zip(left, right)], scale * other_scale)


def power_numbers(numbers, exponent, many):
    """Return a multiple of the polynomial of the powers of the roots.

    If many is less than their number, the polynomial has the degree many, with the highest coefficients only.
    """
    scale = root_scale(numbers)
    sums = sums_of_powers(numbers, scale, exponent * many)
    taken = [sums[exponent * at] for at in range(many + 1)]
    return numbers_of_sums(taken, powers_of(scale, exponent)[exponent])


def value_numbers(numbers, rule, rule_scale, many):
    """Return a multiple of the polynomial of the values that rule, divided by rule_scale, has at the roots.

    If many is less than their number, the polynomial has the degree many, with the highest coefficients only.
    """
    degree = len(rule) - 1
    scale = root_scale(numbers)
    powers = powers_of(scale, degree)
    whole_rule = [number * power for number, power in zip(rule, powers[::-1])]
    sums = sums_of_powers(numbers, scale, degree * many)
    found = [len(numbers) - 1]
    expanded = [1]
    for step in range(many):
        expanded = product(expanded, whole_rule)
        found.append(sum([number * total for number, total in zip(expanded, sums)]))
    return numbers_of_sums(found, rule_scale * powers[degree])
