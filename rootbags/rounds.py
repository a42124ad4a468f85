"""Round numbers: zero and the roots of unity, and bags of nothing else."""

from rootbags.bags import Bag, check_size
from rootbags.choices import choices_of
from rootbags.errors import InvalidOrder, NotRound
from rootbags.wholes import exact_quotient, primitive, product, stretched

MAX_ORDER = 150


def primes_of(order):
    """Return the ascending list of the primes that divide a positive integer."""
    found = []
    rest = order
    prime = 2
    while rest > 1:
        if rest % prime == 0:
            found.append(prime)
        while rest % prime == 0:
            rest = rest // prime
        prime = prime + 1
    return found


def unity_size(order):
    """Return how many primitive roots of unity an order has; 0 for an order out of range."""
    if not 1 <= order <= MAX_ORDER:
        return 0
    many = order
    for prime in primes_of(order):
        many = many // prime * (prime - 1)
    return many


def spread(numbers, factor):
    """Return the coefficients of a polynomial of t to the power factor instead of t."""
    found = [0] * ((len(numbers) - 1) * factor + 1)
    for at, number in enumerate(numbers):
        found[at * factor] = number
    return found


def unity_numbers(order):
    """Return the polynomial of the primitive roots of unity of an order."""
    numbers = [-1, 1]
    done = 1
    for prime in primes_of(order):
        # Numbers whose power is a root of order done have the order done * prime, or the order done itself.
        numbers = exact_quotient(spread(numbers, prime), numbers)
        done = done * prime
    return spread(numbers, order // done)


def unity(order):
    """Return the bag of the primitive roots of unity of an order, each once."""
    if not 1 <= order <= MAX_ORDER:
        raise InvalidOrder(order)
    check_size(unity_size(order))
    return Bag(unity_numbers(order))


def squared(numbers):
    """Return the primitive polynomial of the squares of the roots."""
    return primitive(product(numbers, stretched(numbers, -1))[::2])


def wide_index(numbers):
    """Return the least index of a coefficient that no polynomial of round numbers has, None if there is none."""
    size = len(numbers) - 1
    lead = numbers[-1]
    for at, number in enumerate(numbers):
        if number % lead != 0 or abs(number) > lead * choices_of(size, at):
            return at
    return None


def squaring_result(whole, most):
    """Return what come_round returns for a polynomial with the given number of squarings."""
    before = whole
    numbers = whole
    for step in range(most + 1):
        if step > 0:
            before, numbers = numbers, squared(numbers)
        at = wide_index(numbers)
        if at is not None:
            return ("apart", step, at)
    return ("round",) if before == numbers else ("moving",)


def come_round(bag):
    """Return ("apart", s, i), ("round",) or ("moving",)."""
    enough = 2 + bag.size.bit_length()
    return squaring_result(bag.whole, enough + 1)


def round_holds(bag, claimed):
    """Return whether a tuple is the result of come_round."""
    return claimed == come_round(bag)


def divided_often(numbers, divisor):
    """Return how often a divisor divides the numbers, and what is left."""
    many = 0
    rest = numbers
    found = exact_quotient(rest, divisor)
    while found is not None:
        many = many + 1
        rest = found
        found = exact_quotient(rest, divisor)
    return many, rest


def orders(bag):
    """Return the ascending list of pairs (order, count): how often each number of this order occurs."""
    if come_round(bag) != ("round",):
        raise NotRound()
    many, rest = divided_often(bag.whole, [0, 1])
    found = [(0, many)]
    for order in range(1, MAX_ORDER + 1):
        if unity_size(order) < len(rest):
            many, rest = divided_often(rest, unity_numbers(order))
            found.append((order, many))
    return [(order, count) for order, count in found if count > 0]
