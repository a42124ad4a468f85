"""Evaluating terms."""

from rootbags.steps import run_steps, step_bound
from rootbags.terms import parse_term
from rootbags.trees import planned


def size_bound(tree, sizes):
    """Return the size bound of a tree; sizes is a dict from names to sizes."""
    bounds = []
    for step in planned([tree])[0]:
        bounds.append(step_bound(step, bounds, sizes))
    return bounds[-1]


def evaluate(tree, bags, *, road="sums"):
    """Return the bag of a tree; bags is a dict from names to bags."""
    # The steps stand in the order in which operations are computed, the tree itself last, and equal ones only once.
    return run_steps(planned([tree])[0], bags, road)[-1]


def value_of(text, *, road="sums", **bags):
    """Return the bag of a text; the bags of the names are passed by keyword."""
    return evaluate(parse_term(text), bags, road=road)
