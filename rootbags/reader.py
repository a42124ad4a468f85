"""Reading the texts of terms, token by token."""

from rootbags.errors import InvalidText, NestingTooDeep, TermTooLarge
from rootbags.rationals import MAX_FIGURES, lowest
from rootbags.tokens import tokens_of

BINARY = {
    "|": (1, "join"),
    "+": (2, "sum"),
    "-": (2, "difference"),
    "*": (3, "product"),
    "/": (3, "quotient"),
}
WEAKEST = 1
# What stands between the parentheses of each word.
ARGUMENTS = {
    "roots": ("roots",),
    "unity": ("numeral",),
    "map": ("polynomial", "term"),
    "sums": ("term", "numeral"),
    "products": ("term", "numeral"),
    "distinct": ("term",),
    "common": ("term", "term"),
    "without": ("term", "term"),
}


def without_end_zeros(numbers):
    """Return a list of rationals without the zeros at its end, as a tuple."""
    many = len(numbers)
    while many > 0 and numbers[many - 1] == (0, 1):
        many = many - 1
    return tuple(numbers[:many])


class Reader:
    """The tokens of a text, and how far they have been read."""

    def __init__(self, text, most_open):
        self.tokens = tokens_of(text, MAX_FIGURES)
        self.at = 0
        self.opened = 0
        self.most_open = most_open
        self.nodes = 0

    def next_kind(self):
        """Return the kind of the next token."""
        return self.tokens[self.at][0]

    def next_position(self):
        """Return the position of the next token."""
        return self.tokens[self.at][2]

    def take(self, kind):
        """Read the next token, which must be of this kind, and return its text."""
        if self.next_kind() != kind:
            raise InvalidText(self.next_position())
        text = self.tokens[self.at][1]
        self.at = self.at + 1
        return text

    def take_opening(self):
        """Read an opening round parenthesis."""
        if self.next_kind() == "(" and self.opened == self.most_open:
            raise NestingTooDeep(self.most_open)
        self.take("(")
        self.opened = self.opened + 1

    def take_closing(self):
        """Read a closing round parenthesis."""
        self.take(")")
        self.opened = self.opened - 1

    def take_numeral(self):
        """Read a numeral and return its number."""
        return int(self.take("numeral"))

    def take_rational(self):
        """Read a rational and return it."""
        sign = 1
        if self.next_kind() == "-":
            self.take("-")
            sign = -1
        above = self.take_numeral()
        below = 1
        if self.next_kind() == "/":
            self.take("/")
            position = self.next_position()
            below = self.take_numeral()
            if below == 0:
                raise InvalidText(position)
        return lowest(sign * above, below)

    def take_rationals(self, closing):
        """Read rationals with commas between them, and the sign behind them; return the list of the rationals."""
        found = []
        if self.next_kind() != closing:
            found.append(self.take_rational())
            while self.next_kind() == ",":
                self.take(",")
                found.append(self.take_rational())
        self.take(closing)
        return found

    def take_polynomial(self):
        """Read a polynomial in brackets and return it."""
        self.take("[")
        return without_end_zeros(self.take_rationals("]"))

    def take_argument(self, shape):
        """Read what stands between the parentheses of a word, up to the next comma, and return it."""
        if shape == "term":
            return self.take_term(WEAKEST)
        if shape == "numeral":
            return self.take_numeral()
        position = self.next_position()
        found = self.take_polynomial()
        if shape == "roots" and found == ():
            raise InvalidText(position)
        return found

    def take_call(self):
        """Read a word and what stands between its parentheses, and return the tree."""
        word = self.take("call")
        self.take_opening()
        parts = []
        for shape in ARGUMENTS[word]:
            if parts != []:
                self.take(",")
            parts.append(self.take_argument(shape))
        self.take_closing()
        return self.node(word, *parts)

    def node(self, *parts):
        """Count a node of the tree, and return it."""
        self.nodes = self.nodes + 1
        return parts

    def take_plain(self):
        """Read a term without an operator of its own, and return its tree."""
        kind = self.next_kind()
        if kind == "call":
            return self.take_call()
        if kind == "{":
            self.take("{")
            return self.node("list", tuple(self.take_rationals("}")))
        if kind == "(":
            self.take_opening()
            found = self.take_term(WEAKEST)
            self.take_closing()
            return found
        return self.node("name", self.take("name"))

    def take_signed(self):
        """Read a term with signs in front of it and powers behind it, and return its tree."""
        signs = 0
        while self.next_kind() == "-":
            self.take("-")
            signs = signs + 1
        found = self.take_plain()
        while self.next_kind() == "^":
            self.take("^")
            found = self.node("power", found, self.take_numeral())
        for sign in range(signs):
            found = self.node("negative", found)
        return found

    def take_term(self, weakest):
        """Read a term whose operators outside of parentheses have at least this strength, and return its tree."""
        found = self.take_signed()
        strength, word = BINARY.get(self.next_kind(), (0, ""))
        while strength >= weakest:
            self.take(self.next_kind())
            found = self.node(word, found, self.take_term(strength + 1))
            strength, word = BINARY.get(self.next_kind(), (0, ""))
        return found


def read_tree(text, most_open, most_nodes):
    """Return the tree of a text with limits for open parentheses and for nodes."""
    reader = Reader(text, most_open)
    found = reader.take_term(WEAKEST)
    reader.take("end")
    if reader.nodes > most_nodes:
        raise TermTooLarge(most_nodes)
    return found
