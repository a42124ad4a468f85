"""The trees of terms: what they are made of, whatever stands for their subterms."""

# Where the operands of each word stand: subterms in a tree, indexes of earlier steps in a step of a plan.
OPERAND_PLACES = {
    "list": (),
    "roots": (),
    "unity": (),
    "name": (),
    "join": (1, 2),
    "sum": (1, 2),
    "difference": (1, 2),
    "product": (1, 2),
    "quotient": (1, 2),
    "negative": (1,),
    "power": (1,),
    "map": (2,),
    "sums": (1,),
    "products": (1,),
    "distinct": (1,),
    "common": (1, 2),
    "without": (1, 2),
}


def operands(tree):
    """Return the list of the operands of a tree or a step, from left to right."""
    return [tree[place] for place in OPERAND_PLACES[tree[0]]]


def with_operands(tree, found):
    """Return a tree or a step with other operands."""
    parts = list(tree)
    for place, operand in zip(OPERAND_PLACES[tree[0]], found):
        parts[place] = operand
    return tuple(parts)


def with_name(tree, old, new):
    """Return a tree with another name instead of a name."""
    if tree == ("name", old):
        return ("name", new)
    return with_operands(tree, [with_name(operand, old, new) for operand in operands(tree)])


def listed_names(tree):
    """Return the list of the names in a tree, from left to right."""
    if tree[0] == "name":
        return [tree[1]]
    found = []
    for operand in operands(tree):
        found.extend(listed_names(operand))
    return found


def put_step(tree, steps, indexes):
    """Put the steps of a tree that are not there behind the others, and return the index of its own step."""
    step = with_operands(tree, [put_step(operand, steps, indexes) for operand in operands(tree)])
    # Equal trees have equal steps, and a step is a shallow key while a tree may be a deep one.
    if step not in indexes:
        indexes[step] = len(steps)
        steps.append(step)
    return indexes[step]


def planned(trees):
    """Return the steps and the results of the plan for some trees."""
    steps = []
    indexes = {}
    results = [put_step(tree, steps, indexes) for tree in trees]
    return steps, results
