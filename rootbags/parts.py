"""Parts of bags, and certificates that one bag is inside another one or shares a number with it."""

from rootbags.bags import Bag
from rootbags.polynomials import cofactors, monic, whole_parts
from rootbags.wholes import counted_parts, derivative, difference, exact_quotient, product, scaled, shared_whole


def distinct(bag):
    """Return the bag of the distinct numbers."""
    return Bag(exact_quotient(bag.whole, shared_whole(bag.whole, derivative(bag.whole))))


def common(one, other):
    """Return the bag of the common numbers."""
    return one & other


def without(one, other):
    """Return the bag of the numbers of one less those of other."""
    return Bag(exact_quotient(one.whole, shared_whole(one.whole, other.whole)))


def is_inside(one, other):
    """Return whether one is inside other."""
    return exact_quotient(other.whole, one.whole) is not None


def containment(one, other):
    """Return ("inside", rest), or ("outside", shared, u, v) with u * p + v * q = 1 for what is not shared."""
    rest = exact_quotient(other.whole, one.whole)
    if rest is not None:
        return ("inside", Bag(rest))
    numbers = shared_whole(one.whole, other.whole)
    shared = Bag(numbers)
    u, v = factors_of_one(exact_quotient(one.whole, numbers), exact_quotient(other.whole, numbers))
    return ("outside", shared, u, v)


def factors_of_one(one, other):
    """Return polynomials u and v with u * p + v * q = 1 for two integer polynomials without a common root.

    p and q are the integer polynomials, divided by their last numbers.
    """
    found = cofactors(monic(one), monic(other))
    return found[1], found[2]


def gives_one(u, one, v, other):
    """Return whether u * p + v * q = 1, with p and q as in factors_of_one; u and v are results of whole_parts."""
    # Both sides are multiplied by all denominators, so that they are integers.
    left_scale = u[1] * one[-1]
    right_scale = v[1] * other[-1]
    left = scaled(product(u[0], one), right_scale)
    right = scaled(product(v[0], other), -left_scale)
    return difference(left, right) == [left_scale * right_scale]


def containment_holds(one, other, claimed):
    """Return whether a tuple has one of the forms of containment, with its meaning."""
    # The polynomials are read first, because their numbers must be valid whatever is claimed.
    polys = [whole_parts(poly) for poly in claimed[2:]]
    word = claimed[0]
    held = claimed[1].whole
    if word == "inside" and len(polys) == 0:
        return product(one.whole, held) == other.whole
    if word != "outside" or len(polys) != 2:
        return False
    one_rest = exact_quotient(one.whole, held)
    other_rest = exact_quotient(other.whole, held)
    if one_rest is None or other_rest is None or one_rest == [1]:
        return False
    return gives_one(polys[0], one_rest, polys[1], other_rest)


def meeting(one, other):
    """Return ("shared", bag) with the common numbers, or ("apart", u, v) with u * p + v * q = 1."""
    shared = shared_whole(one.whole, other.whole)
    if len(shared) > 1:
        return ("shared", Bag(shared))
    u, v = factors_of_one(one.whole, other.whole)
    return ("apart", u, v)


def meeting_holds(one, other, claimed):
    """Return whether a tuple has one of the forms of meeting, with its meaning."""
    word = claimed[0]
    if len(claimed) == 2:
        held = claimed[1]
        return word == "shared" and held.size > 0 and is_inside(held, one) and is_inside(held, other)
    # The polynomials are read first, because their numbers must be valid whatever is claimed.
    polys = [whole_parts(poly) for poly in claimed[1:]]
    return word == "apart" and gives_one(polys[0], one.whole, polys[1], other.whole)


def parts_by_count(bag):
    """Return the ascending list of pairs (count, bag) of the numbers that occur so often, each once."""
    return [(count, Bag(part)) for count, part in counted_parts(bag.whole)]
