"""Terms: their texts and their trees."""

from rootbags.errors import InvalidText
from rootbags.rationals import number_text
from rootbags.reader import read_tree
from rootbags.trees import listed_names, operands

MAX_TEXT = 400
MAX_OPEN = 20
MAX_NODES = 60
SIGNS = {"join": "|", "sum": "+", "difference": "-", "product": "*", "quotient": "/"}
STRENGTHS = {"join": 1, "sum": 2, "difference": 2, "product": 3, "quotient": 3, "negative": 4, "power": 5}
STRONGEST = 6


def tree_of(text):
    """Return the tree of a text of any length."""
    return read_tree(text, MAX_OPEN, MAX_NODES)


def parse_term(text):
    """Return the tree of a text."""
    if len(text) > MAX_TEXT:
        raise InvalidText(MAX_TEXT)
    return tree_of(text)


def listed(numbers):
    """Return the text of some rationals with commas between them."""
    return ", ".join([number_text(number) for number in numbers])


def operand_text(tree, least):
    """Return the canonical text of an operand, in parentheses if it binds weaker than least."""
    text = format_term(tree)
    if STRENGTHS.get(tree[0], STRONGEST) < least:
        return "(" + text + ")"
    return text


def part_text(part):
    """Return the text of what stands between the parentheses of a word: a numeral, a polynomial or a term."""
    if isinstance(part, int):
        return str(part)
    if part != () and isinstance(part[0], str):
        return format_term(part)
    return "[" + listed(part) + "]"


def format_term(tree):
    """Return the canonical text."""
    word = tree[0]
    if word == "list":
        return "{" + listed(tree[1]) + "}"
    if word == "name":
        return tree[1]
    if word == "negative":
        return "-" + operand_text(tree[1], STRENGTHS[word])
    if word == "power":
        return operand_text(tree[1], STRENGTHS[word]) + " ^ " + str(tree[2])
    if word in SIGNS:
        strength = STRENGTHS[word]
        left = operand_text(tree[1], strength)
        return left + " " + SIGNS[word] + " " + operand_text(tree[2], strength + 1)
    return word + "(" + ", ".join([part_text(part) for part in tree[1:]]) + ")"


def names_in(tree):
    """Return the names in a tree, ascending, each once."""
    return sorted(set(listed_names(tree)))


def node_count(tree):
    """Return the number of nodes."""
    return 1 + sum([node_count(operand) for operand in operands(tree)])
