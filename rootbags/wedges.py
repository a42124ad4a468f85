"""Matrices for the sums and the products over all choices of some roots of an integer polynomial.

A choice of places stands for the exterior product of unit vectors, in ascending order of their places. The matrix of
the roots acts on such products: on all factors at once, or on one after the other.
"""

from rootbags.matrices import increase


def all_choices(size, many):
    """Return the list of all choices of so many places, each an ascending tuple."""
    if many == 0:
        return [()]
    found = []
    for last in range(many - 1, size):
        for start in all_choices(last, many - 1):
            found.append((*start, last))
    return found


def sign_behind(places, place):
    """Return the sign of moving a factor from its place in the ascending order behind all others."""
    greater = len([other for other in places if other > place])
    return -1 if greater % 2 == 1 else 1


def images(numbers, place):
    """Return the pairs (place, number) of the product of the matrix of the roots and a unit vector."""
    last = len(numbers) - 2
    if place < last:
        return [(place + 1, numbers[-1])]
    return [(at, -number) for at, number in enumerate(numbers[:-1]) if number != 0]


def put_images(row, indexes, others, pairs, sign):
    """Add to a row the exterior products of some factors and each vector of the pairs, put behind them."""
    for place, number in pairs:
        if place not in others:
            together = tuple(sorted([*others, place]))
            increase(row, indexes[together], sign * sign_behind(others, place) * number)


def chosen_sum_matrix(numbers, many):
    """Return the matrix of the sums of so many roots; its scale is the last number."""
    choices = all_choices(len(numbers) - 1, many)
    indexes = {choice: at for at, choice in enumerate(choices)}
    rows = []
    for choice in choices:
        row = {}
        for place in choice:
            others = [other for other in choice if other != place]
            put_images(row, indexes, others, images(numbers, place), sign_behind(others, place))
        rows.append(row)
    return rows


def chosen_product_matrix(numbers, many):
    """Return the matrix of the products of so many roots; its scale is the last number.

    Only the image of the last unit vector has fractions, and it occurs once: so the scale is no higher power.
    """
    last = len(numbers) - 2
    choices = all_choices(last + 1, many)
    indexes = {choice: at for at, choice in enumerate(choices)}
    rows = []
    for choice in choices:
        row = {}
        moved = [place + 1 for place in choice if place < last]
        if len(moved) == many:
            row[indexes[tuple(moved)]] = numbers[-1]
        else:
            put_images(row, indexes, moved, images(numbers, last), 1)
        rows.append(row)
    return rows
