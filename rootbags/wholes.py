"""Integer polynomials: lists of integers, the constant term first, without zeros at the end; [] is zero.

Nothing here changes an argument: the operators of bags need these functions.
"""

from rootbags.rationals import shared_factor

PRIME = 2 ** 61 - 1


def trimmed(numbers):
    """Return the numbers without the zeros at their end."""
    many = len(numbers)
    while many > 0 and numbers[many - 1] == 0:
        many = many - 1
    return numbers[:many]


def scaled(numbers, factor):
    """Return the numbers, each multiplied by a factor."""
    return [number * factor for number in numbers]


def powers_of(base, most):
    """Return the list of the powers of an integer with the exponents 0 to most."""
    found = [1]
    for exponent in range(most):
        found.append(found[exponent] * base)
    return found


def stretched(numbers, factor):
    """Return the numbers, the one at each index multiplied by the power of a factor with this exponent."""
    return [number * power for number, power in zip(numbers, powers_of(factor, len(numbers)))]


def difference(one, other):
    """Return the coefficients of one polynomial minus another one."""
    many = max(len(one), len(other))
    longer = one + [0] * (many - len(one))
    taken = other + [0] * (many - len(other))
    return trimmed([left - right for left, right in zip(longer, taken)])


def product(one, other):
    """Return the coefficients of the product of two polynomials."""
    if one == [] or other == []:
        return []
    numbers = [0 for place in range(len(one) + len(other) - 1)]
    for at, left in enumerate(one):
        for shift, right in enumerate(other):
            numbers[at + shift] = numbers[at + shift] + left * right
    return numbers


def derivative(numbers):
    """Return the coefficients of the derivative."""
    return [at * number for at, number in enumerate(numbers)][1:]


def split_whole(numbers, divisor):
    """Return (factor, quotient, rest) with factor * numbers = quotient * divisor + rest.

    All of them are integers; the factor, a power of the last number of the divisor, makes this possible.
    The rest is shorter than the divisor.
    """
    lead = divisor[-1]
    factor = 1
    quotient = [0 for place in range(len(numbers) - len(divisor) + 1)]
    rest = numbers
    while len(rest) >= len(divisor):
        top = rest[-1]
        at = len(rest) - len(divisor)
        factor = factor * lead
        quotient = [number * lead for number in quotient]
        quotient[at] = top
        rest = difference(scaled(rest, lead), [0] * at + scaled(divisor, top))
    return factor, quotient, rest


def exact_quotient(numbers, divisor):
    """Return the integer polynomial by which a divisor must be multiplied to give the numbers, None if there is none.

    If both have no common factor of their numbers, None means that the divisor divides over no fractions either.
    """
    lead = divisor[-1]
    rest = list(numbers)
    quotient = [0 for place in range(len(numbers) - len(divisor) + 1)]
    for at in range(len(numbers) - len(divisor), -1, -1):
        top, left = divmod(rest[at + len(divisor) - 1], lead)
        if left != 0:
            return None
        quotient[at] = top
        for place, number in enumerate(divisor):
            rest[at + place] = rest[at + place] - top * number
    if trimmed(rest) != []:
        return None
    return quotient


def content(numbers):
    """Return the greatest common divisor of some integers; 0 for none."""
    shared = 0
    for number in numbers:
        shared = shared_factor(shared, number)
    return shared


def without_factor(numbers, factor):
    """Return the integers, each divided by a factor that all of them have."""
    return [number // factor for number in numbers]


def primitive(numbers):
    """Return the multiple of a polynomial whose integers have no common factor and whose last one is positive."""
    if numbers == []:
        return []
    factor = content(numbers)
    if numbers[-1] < 0:
        factor = -factor
    return without_factor(numbers, factor)


def rest_by_prime(numbers, divisor):
    """Return a multiple of the remainder, all numbers taken modulo the prime."""
    lead = divisor[-1]
    rest = numbers
    while len(rest) >= len(divisor):
        top = rest[-1]
        taken = [0] * (len(rest) - len(divisor)) + divisor
        rest = trimmed([(lead * left - top * right) % PRIME for left, right in zip(rest, taken)])
    return rest


def are_plainly_apart(one, other):
    """Return whether it is plain modulo the prime that two polynomials have no common root.

    A common divisor stays one modulo a prime, and keeps its degree if the prime does not divide the last number of
    one. So True is certain, while False says nothing.
    """
    if one == [] or one[-1] % PRIME == 0:
        return False
    high = [number % PRIME for number in one]
    low = trimmed([number % PRIME for number in other])
    while low != []:
        high, low = low, rest_by_prime(high, low)
    return len(high) == 1


def shared_whole(one, other):
    """Return the greatest common divisor as primitive does; [] if both are zero."""
    # Most polynomials are apart, and without this their numbers would become very long before it is found.
    if are_plainly_apart(one, other):
        return [1]
    high = one
    low = other
    while low != []:
        rest = split_whole(high, low)[2]
        # A factor of all numbers has no effect on the result, but without this the numbers would grow fast.
        high, low = low, without_factor(rest, content(rest))
    return primitive(high)


def counted_parts(numbers):
    """Return the ascending list of pairs (count, part): the roots that occur so often, each once."""
    # Each polynomial of rests has each root once less than the one before, down to none.
    rests = [numbers]
    while len(rests[-1]) > 1:
        rests.append(shared_whole(rests[-1], derivative(rests[-1])))
    singles = [exact_quotient(high, low) for high, low in zip(rests, rests[1:])] + [[1]]
    parts = [exact_quotient(more, fewer) for more, fewer in zip(singles, singles[1:])]
    return [(at + 1, part) for at, part in enumerate(parts) if len(part) > 1]
