"""Polynomials and terms of rows by a modulus."""

from rootbags.wholes import product


def inverse_by(number, modulus):
    """Return the inverse of an integer by a modulus with which it shares no divisor."""
    high = modulus
    low = number % modulus
    found = 0
    following = 1
    while low != 0:
        times = high // low
        high, low = low, high - times * low
        found, following = following, found - times * following
    return found % modulus


def rest_by(numbers, divisor, modulus):
    """Return the remainder of a polynomial by a divisor with the last number 1, all by a modulus."""
    size = len(divisor) - 1
    rest = list(numbers)
    for at in range(len(numbers) - size - 1, -1, -1):
        top = rest[at + size] % modulus
        for place in range(size):
            rest[at + place] = rest[at + place] - top * divisor[place]
    return [number % modulus for number in rest[:size]]


def power_rest(exponent, divisor, modulus):
    """Return the remainder of a power of t by a divisor with the last number 1 and a degree of at least 1."""
    found = [1]
    for shift in range(exponent.bit_length() - 1, -1, -1):
        found = rest_by(product(found, found), divisor, modulus)
        if (exponent >> shift) & 1 == 1:
            found = rest_by([0] + found, divisor, modulus)
    return found


def term_by(whole, numbers, scale, place, modulus):
    """Return the term at a place, by a modulus, of the row with the first terms numbers, divided by scale.

    whole is a polynomial that the row follows; its last number and the scale share no divisor with the modulus.
    """
    if numbers == []:
        return 0
    factor = inverse_by(whole[-1], modulus)
    divisor = [number * factor % modulus for number in whole[:-1]] + [1]
    # The remainder says how the term at the place is made of the first terms.
    rest = power_rest(place, divisor, modulus)
    total = sum([share * number for share, number in zip(rest, numbers)])
    return total * inverse_by(scale, modulus) % modulus
