"""Counting real numbers in bags, by the method of Sturm."""

from rootbags.rationals import rational
from rootbags.wholes import content, counted_parts, derivative, scaled, split_whole, without_factor


def next_link(high, low):
    """Return a positive multiple of the remainder, with the opposite sign, without a common factor."""
    factor, quotient, rest = split_whole(high, low)
    signed = scaled(rest, -1) if factor > 0 else rest
    return without_factor(signed, content(signed))


def sturm_chain(numbers):
    """Return the chain of a polynomial all of whose roots occur once."""
    chain = [numbers, derivative(numbers)]
    while len(chain[-1]) > 1:
        chain.append(next_link(chain[-2], chain[-1]))
    return chain


def value_number(numbers, place):
    """Return an integer with the sign of the value of a polynomial at a pair with a positive denominator."""
    above, below = place
    value = 0
    power = 1
    for number in numbers[::-1]:
        value = value * above + number * power
        power = power * below
    return value


def changes(values):
    """Return how often the sign changes in a list, apart from its zeros."""
    signs = [value > 0 for value in values if value != 0]
    return len([1 for one, other in zip(signs, signs[1:]) if one != other])


def changes_at(chain, place):
    """Return how often the sign changes in a chain at a rational."""
    return changes([value_number(numbers, place) for numbers in chain])


def changes_far_below(chain):
    """Return how often the sign changes in a chain below all its roots."""
    return changes([numbers[-1] if len(numbers) % 2 == 1 else -numbers[-1] for numbers in chain])


def changes_far_above(chain):
    """Return how often the sign changes in a chain above all its roots."""
    return changes([numbers[-1] for numbers in chain])


def count_between(numbers, low, high):
    """Return how many real roots of a polynomial, all of which occur once, are above low and at most high."""
    chain = sturm_chain(numbers)
    start = changes_far_below(chain) if low is None else changes_at(chain, low)
    end = changes_far_above(chain) if high is None else changes_at(chain, high)
    return start - end


def count_real(bag, *, above=None, to=None):
    """Return how many real numbers of the bag are greater than above and at most to, as often as they occur."""
    low = None if above is None else rational(above)
    high = None if to is None else rational(to)
    if low is not None and high is not None and low[0] * high[1] >= high[0] * low[1]:
        return 0
    return sum([count * count_between(part, low, high) for count, part in counted_parts(bag.whole)])
