"""Computing the steps of plans: the bounds of their sizes, and their bags."""

from rootbags.bags import Bag, check_size
from rootbags.choices import choices_of
from rootbags.errors import UnknownName
from rootbags.operations import check_road, choice_products, choice_sums, mapped
from rootbags.operations import pair_differences, pair_products, pair_quotients, pair_sums, powers
from rootbags.parts import common, distinct, without
from rootbags.rounds import unity, unity_size
from rootbags.trees import operands

PAIRED = ("sum", "difference", "product", "quotient")


def leaf_bound(step, sizes):
    """Return the size bound of a step without operands; sizes is a dict from names to sizes."""
    word, held = step
    if word == "list":
        return len(held)
    if word == "roots":
        return len(held) - 1
    if word == "unity":
        return unity_size(held)
    return sizes[held]


def step_bound(step, bounds, sizes):
    """Return the size bound of a step, from the bounds of the steps before it."""
    word = step[0]
    found = [bounds[index] for index in operands(step)]
    if found == []:
        return leaf_bound(step, sizes)
    if word == "join":
        return found[0] + found[1]
    if word in PAIRED:
        return found[0] * found[1]
    if word in ("sums", "products"):
        return choices_of(found[0], step[2])
    if word == "common":
        return min(found)
    return found[0]


def check_names(steps, bags):
    """Raise UnknownName for the least name of the steps that the dict lacks."""
    lacking = sorted([step[1] for step in steps if step[0] == "name" and step[1] not in bags])
    if lacking != []:
        raise UnknownName(lacking[0])


def check_bounds(steps, bags):
    """Raise SizeExceeded if the size bound of a step is too great."""
    sizes = {step[1]: bags[step[1]].size for step in steps if step[0] == "name"}
    bounds = []
    for step in steps:
        bound = step_bound(step, bounds, sizes)
        check_size(bound)
        bounds.append(bound)


def leaf_bag(step, bags):
    """Return the bag of a step without operands."""
    word, held = step
    if word == "list":
        return Bag.of(*held)
    if word == "roots":
        return Bag(held)
    if word == "unity":
        return unity(held)
    return bags[held]


def single_bag(step, bag, road):
    """Return the bag of a step with one operand."""
    word = step[0]
    if word == "negative":
        return -bag
    if word == "power":
        return powers(bag, step[2], road=road)
    if word == "map":
        return mapped(bag, step[1], road=road)
    if word == "sums":
        return choice_sums(bag, step[2], road=road)
    if word == "products":
        return choice_products(bag, step[2], road=road)
    return distinct(bag)


def pair_bag(word, one, other, road):
    """Return the bag of a step with two operands."""
    if word == "join":
        return one | other
    if word == "sum":
        return pair_sums(one, other, road=road)
    if word == "difference":
        return pair_differences(one, other, road=road)
    if word == "product":
        return pair_products(one, other, road=road)
    if word == "quotient":
        return pair_quotients(one, other, road=road)
    if word == "common":
        return common(one, other)
    return without(one, other)


def step_bag(step, found, bags, road):
    """Return the bag of a step, from the bags of the steps before it and those of the names."""
    parts = [found[index] for index in operands(step)]
    if len(parts) == 0:
        return leaf_bag(step, bags)
    if len(parts) == 1:
        return single_bag(step, parts[0], road)
    return pair_bag(step[0], parts[0], parts[1], road)


def run_steps(steps, bags, road):
    """Return the list of the bags of some steps; bags is a dict from names to bags."""
    check_road(road)
    check_names(steps, bags)
    check_bounds(steps, bags)
    found = []
    for step in steps:
        found.append(step_bag(step, found, bags, road))
    return found
