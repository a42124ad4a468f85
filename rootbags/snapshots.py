"""Snapshots: the names and terms of a shelf as a text."""

from rootbags.commands import all_uses
from rootbags.errors import InvalidSnapshot, InvalidText, NestingTooDeep, TermTooLarge
from rootbags.shelf import Shelf, shelf_of
from rootbags.terms import MAX_TEXT, format_term, names_in, tree_of
from rootbags.tokens import is_name

MARK = " = "


def write_snapshot(shelf):
    """Return the snapshot of a shelf."""
    return "".join([name + MARK + format_term(shelf.term(name)) + "\n" for name in shelf.names()])


def canonical_tree(text):
    """Return the tree of a canonical text, None for another text."""
    if len(text.replace(" ", "")) > MAX_TEXT:
        return None
    try:
        tree = tree_of(text)
    except (InvalidText, NestingTooDeep, TermTooLarge):
        return None
    return tree if format_term(tree) == text else None


def read_line(line):
    """Return the name and the tree of a line; the tree is None if the line has not this form."""
    name, mark, text = line.partition(MARK)
    if mark == "" or not is_name(name):
        return name, None
    return name, canonical_tree(text)


def read_lines(lines):
    """Return the dict from names to trees of some lines without their line feeds."""
    trees = {}
    last = ""
    for at, line in enumerate(lines):
        name, tree = read_line(line)
        if tree is None or name <= last or at == Shelf.MOST:
            raise InvalidSnapshot(at)
        trees[name] = tree
        last = name
    return trees


def read_snapshot(text):
    """Return the shelf of a snapshot."""
    *lines, rest = text.split("\n")
    trees = read_lines(lines)
    if rest != "":
        raise InvalidSnapshot(len(lines))
    for at, name in enumerate(trees):
        lacking = [used for used in names_in(trees[name]) if used not in trees]
        if lacking != [] or name in all_uses(trees, name):
            raise InvalidSnapshot(at)
    return shelf_of(trees)
