"""Polynomials: tuples of rationals, the constant term first.

Inside, a polynomial is a list of integers without zeros at its end, over one common denominator (its scale).
Long numbers then need few reductions to lowest terms, which are the slow part of rational arithmetic.
"""

from rootbags.errors import InvalidPolynomial
from rootbags.rationals import as_pair, lowest, over_one_scale
from rootbags.wholes import content, difference, product, scaled, shared_whole, split_whole, trimmed, without_factor


def whole_parts(poly):
    """Return the integers and the scale of a polynomial; the scale is positive."""
    numbers, scale = over_one_scale(poly)
    return trimmed(numbers), scale


def as_polynomial(numbers, scale):
    """Return the polynomial with these integers, each divided by the scale."""
    return tuple([lowest(number, scale) for number in numbers])


def monic(numbers):
    """Return the polynomial with these integers, divided by the last one; () for none."""
    if numbers == []:
        return ()
    return as_polynomial(numbers, numbers[-1])


def value_at(poly, place):
    """Return the value of a polynomial at a rational."""
    numbers, scale = whole_parts(poly)
    above, below = as_pair(place)
    value = 0
    # The value is kept multiplied by a power of the denominator, so that it stays an integer.
    power = 1
    for number in numbers[::-1]:
        power = power * below
        value = value * above + number * power
    return lowest(value, scale * power)


def divided(one, other):
    """Return the pair of quotient and remainder; the remainder has a smaller degree than other or is ()."""
    numbers, scale = whole_parts(one)
    divisor, divisor_scale = whole_parts(other)
    if divisor == []:
        raise InvalidPolynomial()
    factor, quotient, rest = split_whole(numbers, divisor)
    whole = factor * scale
    return as_polynomial(scaled(quotient, divisor_scale), whole), as_polynomial(rest, whole)


def greatest_divisor(one, other):
    """Return the greatest common divisor with the last coefficient 1; () if both are zero."""
    return monic(shared_whole(whole_parts(one)[0], whole_parts(other)[0]))


def next_row(high, low):
    """Return the row (r, u, v) that follows two such rows in the algorithm of Euclid."""
    factor, quotient, rest = split_whole(high[0], low[0])
    u = difference(scaled(high[1], factor), product(quotient, low[1]))
    v = difference(scaled(high[2], factor), product(quotient, low[2]))
    # In each row r = u * first + v * second, all integers: a factor that u and v have is one of r, too.
    shared = content(u + v)
    return without_factor(rest, shared), without_factor(u, shared), without_factor(v, shared)


def cofactors(one, other):
    """Return (g, u, v): g is the greatest common divisor, and u * one + v * other = g."""
    first, first_scale = whole_parts(one)
    second, second_scale = whole_parts(other)
    high = (first, [1], [])
    low = (second, [], [1])
    while low[0] != []:
        high, low = low, next_row(high, low)
    divisor, u, v = high
    if divisor == []:
        return (), (), ()
    lead = divisor[-1]
    return monic(divisor), as_polynomial(scaled(u, first_scale), lead), as_polynomial(scaled(v, second_scale), lead)
