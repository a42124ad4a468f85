"""Rationals: pairs (numerator, denominator) in lowest terms with a positive denominator."""

from rootbags.errors import InvalidNumber

MAX_FIGURES = 100
FIGURES = "0123456789"
PART_FIGURES = 64
PART = 10 ** 64


def shared_factor(one, other):
    """Return the greatest common divisor of two integers; 0 if both are 0."""
    while other != 0:
        one, other = other, one % other
    return abs(one)


def least_multiple(one, other):
    """Return the least common multiple of two integers that are not 0."""
    return abs(one // shared_factor(one, other) * other)


def lowest(numerator, denominator):
    """Return the rational."""
    if denominator == 0:
        raise InvalidNumber()
    shared = shared_factor(numerator, denominator)
    if denominator < 0:
        shared = -shared
    return (numerator // shared, denominator // shared)


def as_pair(value):
    """Return the numerator and the denominator of a rational as they were passed.

    They are not brought to lowest terms: this is slow for long numbers, and many callers do not need it.
    """
    if isinstance(value, int):
        return (value, 1)
    numerator, denominator = value
    if denominator == 0:
        raise InvalidNumber()
    return (numerator, denominator)


def rational(value):
    """Return the rational of an argument in lowest terms."""
    numerator, denominator = as_pair(value)
    return lowest(numerator, denominator)


def over_one_scale(values):
    """Return a list of integers and a positive integer, the scale, by which they are divided to give some rationals."""
    pairs = [as_pair(value) for value in values]
    scale = 1
    for pair in pairs:
        scale = least_multiple(scale, pair[1])
    return [above * (scale // below) for above, below in pairs], scale


def whole_text(number):
    """Return the text of an integer.

    Python refuses to write integers of more than 4300 digits at once, so that long ones are written in parts.
    """
    parts = []
    high = abs(number)
    while high >= PART:
        high, low = divmod(high, PART)
        parts.append(str(low).zfill(PART_FIGURES))
    parts.append(str(high))
    if number < 0:
        parts.append("-")
    return "".join(parts[::-1])


def number_text(value):
    """Return the text of a rational."""
    numerator, denominator = rational(value)
    if denominator == 1:
        return whole_text(numerator)
    return whole_text(numerator) + "/" + whole_text(denominator)


def is_numeral(text):
    """Return whether a text consists of at least one digit and not too many."""
    if not 1 <= len(text) <= MAX_FIGURES:
        return False
    return all([figure in FIGURES for figure in text])


def parse_number(text):
    """Return the rational of a text."""
    above, slash, below = text.removeprefix("-").partition("/")
    if slash == "":
        below = "1"
    if not is_numeral(above) or not is_numeral(below):
        raise InvalidNumber()
    value = lowest(int(above), int(below))
    if text.startswith("-"):
        value = (-value[0], value[1])
    # Leading zeros, `-0`, `1/1` and `2/4` are read, but they are not what number_text returns.
    if number_text(value) != text:
        raise InvalidNumber()
    return value
