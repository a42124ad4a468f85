"""Plans: terms as lists of steps, in which equal subterms are computed once."""

from rootbags.steps import run_steps
from rootbags.trees import operands, planned, with_operands


def compiled(*trees):
    """Return the plan for any number of trees."""
    return planned(trees)


def plan_trees(plan):
    """Return the list of the trees that a plan computes."""
    steps, results = plan
    found = []
    for step in steps:
        found.append(with_operands(step, [found[index] for index in operands(step)]))
    return [found[index] for index in results]


def run_plan(plan, bags, *, road="sums"):
    """Return the list of the bags of the trees; bags is a dict from names to bags."""
    steps, results = plan
    found = run_steps(steps, bags, road)
    return [found[index] for index in results]


def step_line(index, step):
    """Return the line of a step in the table."""
    indexes = ",".join([str(operand) for operand in operands(step)])
    return f"{index:>3} {step[0]:<10}|{indexes:>6}"


def plan_table(plan):
    """Return a list with a line for each step."""
    return [step_line(index, step) for index, step in enumerate(plan[0])]
