"""Matrices of integers whose eigenvalues are the roots of integer polynomials, times a positive integer, the scale.

A matrix is the list of its rows; a row is a dict from columns to integers, with zero where it has no column.
"""

from rootbags.rationals import least_multiple
from rootbags.wholes import powers_of, stretched


def increase(row, column, number):
    """Add a number to a row at a column."""
    row[column] = row.get(column, 0) + number


def multiple(rows, factor):
    """Return the matrix times an integer."""
    return [{column: number * factor for column, number in row.items()} for row in rows]


def companion(numbers):
    """Return the matrix of the roots of a polynomial; its scale is the last number."""
    last = len(numbers) - 2
    rows = []
    for at in range(last + 1):
        row = {last: -numbers[at]} if numbers[at] != 0 else {}
        if at > 0:
            row[at - 1] = numbers[-1]
        rows.append(row)
    return rows


def matrix_product(one, other):
    """Return the product of two matrices."""
    rows = []
    for row in one:
        found = {}
        for middle, number in row.items():
            for column, factor in other[middle].items():
                increase(found, column, number * factor)
        rows.append(found)
    return rows


def with_diagonal(rows, number):
    """Return the matrix with a number added at each place of the diagonal."""
    return [{**row, at: row.get(at, 0) + number} for at, row in enumerate(rows)]


def matrix_of_sums(one, other):
    """Return the matrix whose eigenvalues are the sums of all pairs of eigenvalues of two matrices."""
    width = len(other)
    rows = []
    for at, row in enumerate(one):
        for place, other_row in enumerate(other):
            found = {}
            for column, number in row.items():
                increase(found, column * width + place, number)
            for column, number in other_row.items():
                increase(found, at * width + column, number)
            rows.append(found)
    return rows


def matrix_of_products(one, other):
    """Return the matrix whose eigenvalues are the products of all pairs of eigenvalues of two matrices."""
    width = len(other)
    rows = []
    for row in one:
        for other_row in other:
            found = {}
            for column, number in row.items():
                for place, factor in other_row.items():
                    increase(found, column * width + place, number * factor)
            rows.append(found)
    return rows


def matrix_of_values(numbers, rule):
    """Return the matrix whose eigenvalues are the values of an integer polynomial at the roots, and its scale."""
    rows = companion(numbers)
    degree = len(rule) - 1
    powers = powers_of(numbers[-1], degree)
    found = [{} for row in rows]
    for number, power in zip(rule[::-1], powers):
        found = with_diagonal(matrix_product(found, rows), number * power)
    return found, powers[degree]


def first_traces(rows):
    """Return the list of 2 and the sums of the first and the second powers of the eigenvalues."""
    first = sum([row.get(at, 0) for at, row in enumerate(rows)])
    second = 0
    for at, row in enumerate(rows):
        second = second + sum([number * rows[column].get(at, 0) for column, number in row.items()])
    return [2, first, second]


def corner_vector(rows, vector):
    """Return the product of the upper left corner of a matrix, as large as a vector, and the vector."""
    size = len(vector)
    found = []
    for row in rows[:size]:
        found.append(sum([number * vector[column] for column, number in row.items() if column < size]))
    return found


def border_numbers(rows, at):
    """Return the numbers by which the row and the column at an index extend the polynomial of the corner before."""
    numbers = [1, -rows[at].get(at, 0)]
    row = [(column, number) for column, number in rows[at].items() if column < at]
    vector = [line.get(at, 0) for line in rows[:at]]
    for step in range(at):
        numbers.append(-sum([number * vector[column] for column, number in row]))
        vector = corner_vector(rows, vector)
    return numbers


def characteristic(rows):
    """Return the characteristic polynomial of a matrix, by the method of Samuelson and Berkowitz.

    It needs no divisions, so that all numbers are integers.
    """
    falling = [1]
    for at in range(len(rows)):
        border = border_numbers(rows, at)
        falling = [sum([border[place - k] * number for k, number in enumerate(falling[:place + 1])])
                   for place in range(at + 2)]
    return falling[::-1]


def numbers_of_matrix(rows, scale):
    """Return a multiple of the polynomial whose roots are the eigenvalues of a matrix, divided by the scale."""
    return stretched(characteristic(rows), scale)


def pair_sum_matrix(one, other, sign):
    """Return the matrix of the sums, or for the sign -1 the differences, of all pairs of roots, and its scale."""
    scale = least_multiple(one[-1], other[-1])
    left = multiple(companion(one), scale // one[-1])
    right = multiple(companion(other), sign * (scale // other[-1]))
    return matrix_of_sums(left, right), scale


def pair_product_matrix(one, other):
    """Return the matrix of the products of all pairs of roots, and its scale."""
    return matrix_of_products(companion(one), companion(other)), one[-1] * other[-1]
