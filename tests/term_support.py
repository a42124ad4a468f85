"""What the tests of terms need: random trees and texts, and the rules of the document in another form."""

import re
from fractions import Fraction
from itertools import combinations, product
from math import comb, gcd, prod
from random import Random

from support import expected, fraction, pair, polynomial, polynomial_of_roots

BINARY = {"join": "|", "sum": "+", "difference": "-", "product": "*", "quotient": "/"}
WORDS = ("roots", "unity", "map", "sums", "products", "distinct", "common", "without")
LEAVES = ("list", "roots", "unity", "name")
ONE_OPERAND = ("negative", "power", "map", "sums", "products", "distinct")
TWO_OPERANDS = (*BINARY, "common", "without")
ALL_WORDS = (*LEAVES, *ONE_OPERAND, *TWO_OPERANDS)


class Trees:
    """Random trees, the same ones in each run; their names are among the given ones."""

    def __init__(self, seed, names=("a", "b", "c", "roots", "map", "abcdefgh")):
        self.random = Random(seed)
        self.names = names

    def rational(self):
        return pair(Fraction(self.random.randrange(-9, 10), self.random.choice([1, 1, 1, 2, 3, 10])))

    def poly(self, most):
        values = [fraction(self.rational()) for _ in range(self.random.randrange(most + 1))]
        return polynomial(values)

    def leaf(self):
        word = self.random.choice(LEAVES)
        if word == "list":
            return ("list", tuple(self.rational() for _ in range(self.random.randrange(4))))
        if word == "roots":
            return ("roots", self.poly(4) or ((1, 2),))
        if word == "unity":
            return ("unity", self.random.randrange(13))
        return ("name", self.random.choice(self.names))

    def tree(self, nodes):
        """A tree with exactly so many nodes."""
        if nodes == 1:
            return self.leaf()
        if nodes == 2 or self.random.randrange(3) == 0:
            word = self.random.choice(ONE_OPERAND)
            inner = self.tree(nodes - 1)
            if word == "map":
                return (word, self.poly(4), inner)
            if word in ("negative", "distinct"):
                return (word, inner)
            return (word, inner, self.random.randrange(4))
        left = self.random.randrange(1, nodes - 1)
        return (self.random.choice(TWO_OPERANDS), self.tree(left), self.tree(nodes - 1 - left))


def number(value):
    """The text of a rational in lowest terms."""
    return str(value[0]) if value[1] == 1 else f"{value[0]}/{value[1]}"


def listed(values):
    return ",".join(number(value) for value in values)


def full_text(tree):
    """A text of a tree with parentheses around each operand."""
    word = tree[0]
    if word == "list":
        return "{" + listed(tree[1]) + "}"
    if word == "name":
        return tree[1]
    if word == "roots":
        return f"roots([{listed(tree[1])}])"
    if word == "unity":
        return f"unity({tree[1]})"
    if word == "map":
        return f"map([{listed(tree[1])}],{full_text(tree[2])})"
    if word in ("sums", "products"):
        return f"{word}({full_text(tree[1])},{tree[2]})"
    if word == "negative":
        return f"-({full_text(tree[1])})"
    if word == "power":
        return f"({full_text(tree[1])})^{tree[2]}"
    if word in BINARY:
        return f"({full_text(tree[1])}){BINARY[word]}({full_text(tree[2])})"
    return f"{word}({','.join(full_text(operand) for operand in tree[1:])})"


def tokens(text):
    """The pairs (token, position) of a text, without its spaces."""
    return [(found.group(), found.start()) for found in re.finditer(r"[a-z]+|[0-9]+|[^ ]", text)]


def spaced(text, random):
    """The text with other spaces before, between and after its tokens."""
    parts = []
    for token, _ in tokens(text):
        # Between two tokens of letters or of digits a space would be needed, but they never stand side by side.
        parts += [" " * random.choice([0, 0, 0, 1, 2]), token]
    return "".join(parts) + " " * random.choice([0, 0, 1, 2])


class Fault(Exception):
    def __init__(self, code, value=None):
        super().__init__(code, value)
        self.found = (code, value)


class Machine:
    """Decides by a stack of what may follow whether a text is one of a term, and finds its first fault."""

    CALLS = {
        "roots": ["roots"],
        "unity": ["numeral"],
        "map": ["poly", ",", "term"],
        "sums": ["term", ",", "numeral"],
        "products": ["term", ",", "numeral"],
        "distinct": ["term"],
        "common": ["term", ",", "term"],
        "without": ["term", ",", "term"],
    }

    def __init__(self, text):
        self.text = text
        self.tokens = tokens(text)
        self.stack = ["end", "term"]
        self.opened = 0
        self.nodes = 0
        self.zero = True
        self.bracket = None

    def fault(self):
        """None for a text of a term, otherwise the pair of the code of its error and its value."""
        if len(self.text) > 400:
            return ("InvalidText", 400)
        try:
            for at, (token, position) in enumerate(self.tokens):
                behind = self.tokens[at + 1][0] if at + 1 < len(self.tokens) else ""
                self.read(token, position, behind)
            while self.stack[-1] == "rest":
                self.stack.pop()
            if self.stack != ["end"]:
                return ("InvalidText", len(self.text))
        except Fault as fault:
            return fault.found
        return ("TermTooLarge", 60) if self.nodes > 60 else None

    def push(self, *symbols):
        self.stack.extend(reversed(symbols))

    def open(self):
        self.opened += 1
        if self.opened > 20:
            raise Fault("NestingTooDeep", 20)

    def read(self, token, position, behind):
        if re.fullmatch(r"0[0-9]+|[0-9]{101,}|[a-z]{9,}|[^a-z0-9{}()\[\],|+*/^-]", token):
            raise Fault("InvalidText", position)
        if token[0].isalpha() and behind == "(" and token not in WORDS:
            raise Fault("InvalidText", position)
        while not self.step(self.stack.pop(), token, position, behind):
            pass

    def step(self, symbol, token, position, behind):
        """Replace a symbol by what may follow; return whether the token has been read."""
        if symbol == "term":
            return self.term(token, position, behind)
        if symbol == "rest":
            if token in ("|", "+", "-", "*", "/"):
                self.nodes += 1
                self.push("term")
                return True
            if token == "^":
                self.nodes += 1
                self.push("numeral", "rest")
                return True
            return False
        if symbol in ("numbers", "first"):
            # The closing sign of the numbers is below them in the stack.
            if symbol == "first" and token == self.stack[-1]:
                return False
            self.push("above" if token == "-" else "figures")
            return token == "-"
        if symbol == "slash":
            if token == "/":
                self.push("below")
                return True
            return False
        if symbol == "more":
            if token == ",":
                self.push("numbers")
                return True
            return False
        if symbol in ("poly", "roots") and token == "[":
            self.zero = True
            self.bracket = position
            self.push("first", "]", *(["nonzero"] if symbol == "roots" else []))
            return True
        if symbol in ("numeral", "figures", "above", "below") and token[0].isdigit():
            if symbol == "below" and token == "0":
                raise Fault("InvalidText", position)
            if symbol in ("figures", "above"):
                self.zero = self.zero and token == "0"
                self.push("slash", "more")
            elif symbol == "below":
                pass
            return True
        if symbol == token and symbol in (",", ")", "]", "}"):
            self.opened -= symbol == ")"
            if self.stack[-1] == "nonzero":
                self.stack.pop()
                if self.zero:
                    raise Fault("InvalidText", self.bracket)
            return True
        if symbol == token == "(":
            self.open()
            return True
        raise Fault("InvalidText", position)

    def term(self, token, position, behind):
        if token == "-":
            self.nodes += 1
            self.push("term")
        elif token == "{":
            self.nodes += 1
            self.push("first", "}", "rest")
        elif token == "(":
            self.open()
            self.push("term", ")", "rest")
        elif token[0].isalpha():
            self.nodes += 1
            self.push(*(["(", *self.CALLS[token], ")"] if behind == "(" else []), "rest")
        else:
            raise Fault("InvalidText", position)
        return True


def bound(tree, sizes):
    """The size bound of a tree."""
    word = tree[0]
    if word == "list":
        return len(tree[1])
    if word == "roots":
        return len(tree[1]) - 1
    if word == "unity":
        return len([k for k in range(1, tree[1] + 1) if gcd(k, tree[1]) == 1]) if 1 <= tree[1] <= 150 else 0
    if word == "name":
        return sizes[tree[1]]
    if word == "map":
        return bound(tree[2], sizes)
    one = bound(tree[1], sizes)
    if word in ("sums", "products"):
        return comb(one, tree[2])
    if word in ONE_OPERAND or word == "without":
        return one
    other = bound(tree[2], sizes)
    return {"join": one + other, "common": min(one, other)}.get(word, one * other)


def subterms(tree):
    """The tree itself and all its subterms."""
    found = [tree]
    for part in tree[1:]:
        if isinstance(part, tuple) and part and part[0] in ALL_WORDS:
            found += subterms(part)
    return found


def values(tree, lists):
    """The fractions of the bag of a tree; lists has those of its names. Raises a Fault with the code of an error."""
    for part in subterms(tree):
        if bound(part, {name: len(roots) for name, roots in lists.items()}) > 40:
            raise Fault("SizeExceeded")
    return computed(tree, lists)


def computed(tree, lists):
    found = result(tree, lists)
    limited = expected(found)
    if isinstance(limited, str):
        raise Fault(limited)
    return found


def result(tree, lists):
    word = tree[0]
    if word == "list":
        return [fraction(value) for value in tree[1]]
    if word == "name":
        return list(lists[tree[1]])
    if word == "unity":
        if not 1 <= tree[1] <= 150:
            raise Fault("InvalidOrder")
        return {1: [Fraction(1)], 2: [Fraction(-1)]}[tree[1]]
    if word == "roots":
        return rational_roots(tree[1])
    if word in ONE_OPERAND:
        return single(tree, computed(tree[2 if word == "map" else 1], lists))
    one = computed(tree[1], lists)
    other = computed(tree[2], lists)
    if word == "quotient" and 0 in other:
        raise Fault("ContainsZero")
    if word == "join":
        return one + other
    if word in ("common", "without"):
        shared = [root for root in set(one) for _ in range(min(one.count(root), other.count(root)))]
        return shared if word == "common" else less(one, shared)
    work = {
        "sum": lambda x, y: x + y,
        "difference": lambda x, y: x - y,
        "product": lambda x, y: x * y,
        "quotient": lambda x, y: x / y,
    }[word]
    return [work(x, y) for x, y in product(one, other)]


def less(one, taken):
    rest = list(one)
    for root in taken:
        rest.remove(root)
    return rest


def single(tree, roots):
    word = tree[0]
    if word == "negative":
        return [-root for root in roots]
    if word == "distinct":
        return sorted(set(roots))
    if word == "map":
        if len(tree[1]) > 7:
            raise Fault("InvalidPolynomial")
        return [sum((fraction(value) * root ** at for at, value in enumerate(tree[1])), Fraction(0)) for root in roots]
    if word == "power":
        if tree[2] > 16:
            raise Fault("InvalidExponent")
        return [root ** tree[2] for root in roots]
    if word == "sums":
        return [sum(chosen, Fraction(0)) for chosen in combinations(roots, tree[2])]
    return [prod(chosen, start=Fraction(1)) for chosen in combinations(roots, tree[2])]


# Polynomials that random terms may have behind `roots`, by their roots, which are all rational.
ROOTS = {polynomial(polynomial_of_roots(roots)): roots for roots in (
    [], [Fraction(0)], [Fraction(2)], [Fraction(1, 2), Fraction(-3)], [Fraction(1), Fraction(1), Fraction(-1)])}


def rational_roots(poly):
    return ROOTS[poly]
