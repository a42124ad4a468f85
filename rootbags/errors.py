"""The errors of the package; `code` is the name of the class."""


class BagError(ValueError):
    """The base class of the errors for invalid values."""

    def __init__(self, code="BagError"):
        self.code = code


class InvalidNumber(BagError):
    """A pair has the denominator zero, or a text is not that of a rational."""

    def __init__(self):
        BagError.__init__(self, "InvalidNumber")


class InvalidPolynomial(BagError):
    """A polynomial is zero, or its degree is too great, where this is not allowed."""

    def __init__(self):
        BagError.__init__(self, "InvalidPolynomial")


class SizeExceeded(BagError):
    """A bag would have too many numbers."""

    def __init__(self, limit):
        BagError.__init__(self, "SizeExceeded")
        self.limit = limit


class DigitsExceeded(BagError):
    """The polynomial of a bag would have too many digits."""

    def __init__(self, limit):
        BagError.__init__(self, "DigitsExceeded")
        self.limit = limit


class ContainsZero(BagError):
    """Zero is among the divisors."""

    def __init__(self):
        BagError.__init__(self, "ContainsZero")


class InvalidExponent(BagError):
    """An exponent is out of range."""

    def __init__(self, exponent):
        BagError.__init__(self, "InvalidExponent")
        self.exponent = exponent


class InvalidChoice(BagError):
    """A number of places to choose is negative."""

    def __init__(self, many):
        BagError.__init__(self, "InvalidChoice")
        self.many = many


class InvalidCount(BagError):
    """A number of items is out of range."""

    def __init__(self, many):
        BagError.__init__(self, "InvalidCount")
        self.many = many


class InvalidRoad(BagError):
    """There is no such method of computation."""

    def __init__(self, road):
        BagError.__init__(self, "InvalidRoad")
        self.road = road


class InvalidSums(BagError):
    """A list is not one of power sums."""

    def __init__(self):
        BagError.__init__(self, "InvalidSums")


class InvalidOrder(BagError):
    """The order of roots of unity is out of range."""

    def __init__(self, order):
        BagError.__init__(self, "InvalidOrder")
        self.order = order


class NotRound(BagError):
    """A bag does not come round."""

    def __init__(self):
        BagError.__init__(self, "NotRound")


class InvalidText(BagError):
    """The text of a term has a token that cannot stand where it stands."""

    def __init__(self, position):
        BagError.__init__(self, "InvalidText")
        self.position = position


class NestingTooDeep(BagError):
    """Too many round parentheses are open."""

    def __init__(self, limit):
        BagError.__init__(self, "NestingTooDeep")
        self.limit = limit


class TermTooLarge(BagError):
    """A tree has too many nodes."""

    def __init__(self, limit):
        BagError.__init__(self, "TermTooLarge")
        self.limit = limit


class InvalidRow(BagError):
    """A row has not as many first terms as its bag has numbers."""

    def __init__(self):
        BagError.__init__(self, "InvalidRow")


class InvalidPlace(BagError):
    """A place of a row is out of range."""

    def __init__(self, place):
        BagError.__init__(self, "InvalidPlace")
        self.place = place


class InvalidModulus(BagError):
    """A modulus is out of range."""

    def __init__(self, modulus):
        BagError.__init__(self, "InvalidModulus")
        self.modulus = modulus


class SharedDivisor(BagError):
    """A modulus shares a divisor with a denominator of a row."""

    def __init__(self, modulus):
        BagError.__init__(self, "SharedDivisor")
        self.modulus = modulus


class InvalidName(BagError):
    """A name has not the form of a name."""

    def __init__(self, name):
        BagError.__init__(self, "InvalidName")
        self.name = name


class DuplicateName(BagError):
    """A shelf has the name already."""

    def __init__(self, name):
        BagError.__init__(self, "DuplicateName")
        self.name = name


class NameInUse(BagError):
    """A name cannot be dropped, because the tree of this name contains it."""

    def __init__(self, name):
        BagError.__init__(self, "NameInUse")
        self.name = name


class CircularName(BagError):
    """A name would use itself."""

    def __init__(self, name):
        BagError.__init__(self, "CircularName")
        self.name = name


class LimitReached(BagError):
    """A shelf has no room for another name."""

    def __init__(self, limit):
        BagError.__init__(self, "LimitReached")
        self.limit = limit


class InvalidLimit(BagError):
    """A room for names is out of range."""

    def __init__(self, limit):
        BagError.__init__(self, "InvalidLimit")
        self.limit = limit


class InvalidCommand(BagError):
    """A tuple has not the form of a command."""

    def __init__(self, position):
        BagError.__init__(self, "InvalidCommand")
        self.position = position


class InvalidSnapshot(BagError):
    """A line has no place in a snapshot."""

    def __init__(self, line):
        BagError.__init__(self, "InvalidSnapshot")
        self.line = line


class Missing(LookupError):
    """The base class of the errors for what is not there."""

    def __init__(self, code="Missing"):
        self.code = code


class UnknownName(Missing):
    """There is no such name."""

    def __init__(self, name):
        Missing.__init__(self, "UnknownName")
        self.name = name


class EmptyHistory(Missing):
    """There is no step to undo or to redo."""

    def __init__(self):
        Missing.__init__(self, "EmptyHistory")
