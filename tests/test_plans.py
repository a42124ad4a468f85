import copy
import unittest

from rootbags.bags import Bag
from rootbags.errors import (BagError, ContainsZero, DigitsExceeded, InvalidExponent, InvalidOrder, InvalidRoad,
                             Missing,
                             SizeExceeded, UnknownName)
from rootbags.evaluation import evaluate
from rootbags.operations import ROADS
from rootbags.plans import compiled, plan_table, plan_trees, run_plan
from rootbags.terms import parse_term
from support import BagCase, Samples
from term_support import ALL_WORDS, Trees, subterms

SQRT = Bag((-2, 0, 1))
CUBIC = Bag((1, -1, (1, 2), 2))
ZERO = Bag.of(0)
WIDE = Bag.of(*[0] * 40)
LONG = Bag.of(10 ** 99)
BAGS = {"a": SQRT, "b": CUBIC, "z": ZERO, "m": WIDE, "l": LONG}


def trees_of(*texts):
    return [parse_term(text) for text in texts]


def is_tree(part):
    return isinstance(part, tuple) and part != () and part[0] in ALL_WORDS


def read_order(tree):
    """All nodes of a tree in the order in which they are finished."""
    found = []
    for part in tree[1:]:
        if is_tree(part):
            found += read_order(part)
    return found + [tree]


def expected_plan(trees):
    """The plan for some trees, by looking up each tree in a list."""
    order = []
    for tree in trees:
        for node in read_order(tree):
            if node not in order:
                order.append(node)
    steps = [tuple(order.index(part) if is_tree(part) else part for part in node) for node in order]
    return steps, [order.index(tree) for tree in trees]


def codes(call, *arguments, **named):
    """The list that a call returns, or the code of its error."""
    try:
        return call(*arguments, **named)
    except (BagError, Missing) as error:
        return error.code


class Compiled(BagCase):
    def test_none_one_and_several_trees(self):
        self.assertEqual(compiled(), ([], []))
        self.assertEqual(compiled(*trees_of("a")), ([("name", "a")], [0]))
        self.assertEqual(compiled(*trees_of("a", "a")), ([("name", "a")], [0, 0]))
        self.assertEqual(compiled(*trees_of("b", "a | b", "a")),
                         ([("name", "b"), ("name", "a"), ("join", 1, 0)], [0, 2, 1]))

    def test_each_kind_of_step(self):
        text = ("common(without(distinct(products(sums(map([1, 2], -(a ^ 3)), 2), 1)), unity(3)), "
                "roots([1, 2]) | {1, 1/2}) + a - a * a / a")
        steps, results = compiled(parse_term(text))
        self.assertEqual(steps[:8], [
            ("name", "a"), ("power", 0, 3), ("negative", 1), ("map", ((1, 1), (2, 1)), 2), ("sums", 3, 2),
            ("products", 4, 1),
            ("distinct", 5), ("unity", 3)])
        self.assertEqual(steps[8:], [
            ("without", 6, 7), ("roots", ((1, 1), (2, 1))), ("list", ((1, 1), (1, 2))), ("join", 9, 10),
            ("common", 8, 11),
            ("sum", 12, 0), ("product", 0, 0), ("quotient", 14, 0), ("difference", 13, 15)])
        self.assertEqual(results, [16])

    def test_equal_trees_share_one_step(self):
        self.assertEqual(compiled(parse_term("a + a")), ([("name", "a"), ("sum", 0, 0)], [1]))
        self.assertEqual(compiled(parse_term("(a + b) * (a + b)")),
                         ([("name", "a"), ("name", "b"), ("sum", 0, 1), ("product", 2, 2)], [3]))
        self.assertEqual(compiled(*trees_of("{1, 2/4}", "{1,1/2}", "{1/2, 1}")),
                         ([("list", ((1, 1), (1, 2))), ("list", ((1, 2), (1, 1)))], [0, 0, 1]))

    def test_unequal_trees_do_not(self):
        for one, other in (("a + b", "b + a"), ("a ^ 1", "a ^ 2"), ("sums(a, 1)", "products(a, 1)"),
                           ("{1}", "roots([1])"),
                           ("map([1], a)", "map([2], a)"), ("unity(1)", "unity(2)"), ("a", "b"), ("a - b", "a + b")):
            plan = compiled(*trees_of(one, other))
            self.assertNotEqual(plan[1][0], plan[1][1])
            self.assertEqual(plan_trees(plan), trees_of(one, other))

    def test_samples(self):
        samples = Trees(601, names=("a", "b"))
        for _ in range(200):
            trees = [samples.tree(samples.random.randrange(1, 9)) for _ in range(samples.random.randrange(5))]
            trees += [samples.random.choice(subterms(tree)) for tree in trees]
            plan = compiled(*trees)
            self.assertEqual(plan, expected_plan(trees))
            self.assertEqual([type(plan), type(plan[0]), type(plan[1])], [tuple, list, list])
            self.assertEqual(plan_trees(plan), trees)

    def test_the_lists_are_new(self):
        tree = parse_term("a + a")
        compiled(tree)[0].clear()
        self.assertEqual(compiled(tree), ([("name", "a"), ("sum", 0, 0)], [1]))

    def test_deep_trees(self):
        tree = parse_term("a" + "^1" * 59)
        steps, results = compiled(tree)
        self.assertEqual((len(steps), results), (60, [59]))
        self.assertEqual(plan_trees((steps, results)), [tree])


class PlanTrees(BagCase):
    def test_results_in_any_order(self):
        steps = [("name", "a"), ("power", 0, 0), ("join", 1, 0), ("name", "a")]
        self.assertEqual(plan_trees((steps, [])), [])
        self.assertEqual(plan_trees(plan=(steps, [2, 0, 2, 3])), trees_of("a ^ 0 | a", "a", "a ^ 0 | a", "a"))
        self.assertEqual(plan_trees((tuple(steps), (1,))), trees_of("a ^ 0"))

    def test_exponents_and_numbers_are_no_indexes(self):
        steps = [("name", "a"), ("name", "b"), ("power", 1, 0), ("sums", 0, 1), ("products", 2, 0),
                 ("map", ((0, 1), (1, 1)), 4),
                 ("unity", 1), ("list", ((0, 1), (1, 1)))]
        self.assertEqual(plan_trees((steps, [5, 3, 6, 7])),
                         trees_of("map([0, 1], products(b ^ 0, 0))", "sums(a, 1)", "unity(1)", "{0, 1}"))

    def test_long_plans(self):
        steps = [("name", "a")] + [("negative", at) for at in range(440)]
        tree = ("name", "a")
        for _ in range(440):
            tree = ("negative", tree)
        self.assertEqual(plan_trees((steps, [440]))[0][1][1][0], "negative")
        self.assertEqual(plan_trees((steps, [3])), trees_of("---a"))
        # Each step uses the one before twice, so that the tree would be too large if nothing were shared.
        doubled = [("name", "a")] + [("common", at, at) for at in range(100)]
        self.assertEqual(len(plan_trees((doubled, [100]))), 1)
        self.assertEqual(run_plan((doubled, [100]), {"a": SQRT}), [SQRT])


class RunPlan(BagCase):
    def test_against_evaluate(self):
        samples = Trees(602, names=("a", "b"))
        numbers = Samples(603)
        for _ in range(120):
            trees = [samples.tree(samples.random.randrange(1, 7)) for _ in range(samples.random.randrange(1, 4))]
            bags = {name: numbers.bag(samples.random.randrange(3)) for name in ("a", "b")}
            for road in ROADS:
                each = [codes(evaluate, tree, bags, road=road) for tree in trees]
                faults = [code for code in each if isinstance(code, str)]
                wanted = "SizeExceeded" if "SizeExceeded" in faults else faults[0] if faults else each
                self.assertEqual(codes(run_plan, compiled(*trees), bags, road=road), wanted, trees)

    def test_no_trees(self):
        self.assertEqual(run_plan(compiled(), {}), [])
        self.assertEqual(run_plan(([], ()), {"a": SQRT}), [])
        self.assertEqual(run_plan(plan=((), []), bags={}), [])

    def test_other_plans(self):
        steps = [("name", "a"), ("name", "a"), ("sum", 0, 1), ("sum", 1, 0), ("list", ((1, 1),)), ("join", 2, 4)]
        wanted = [SQRT + SQRT, (SQRT + SQRT) | Bag.of(1), SQRT, SQRT]
        for road in ROADS:
            self.assertEqual(run_plan((steps, [3, 5, 0, 1]), BAGS, road=road), wanted)
            self.assertEqual(run_plan((tuple(steps), (3, 5, 0, 1)), BAGS, road=road), wanted)
        self.assertEqual(run_plan((steps, []), BAGS), [])

    def test_errors_of_steps_that_no_result_needs(self):
        for steps, error in (
                ([("name", "z"), ("quotient", 0, 0)], ContainsZero),
                ([("name", "z"), ("power", 0, 17)], InvalidExponent),
                ([("name", "z"), ("unity", 0)], InvalidOrder), ([("name", "l"), ("product", 0, 0)], DigitsExceeded),
                ([("name", "m"), ("sum", 0, 0)], SizeExceeded), ([("name", "a"), ("name", "q")], UnknownName)):
            for results in ([], [0], (0, 0)):
                self.assert_raises(error, run_plan, (steps, results), BAGS)

    def test_unknown_names_of_all_steps(self):
        steps = [("name", "d"), ("name", "c"), ("name", "a"), ("name", "e")]
        self.assertEqual(self.assert_raises(UnknownName, run_plan, (steps, [0]), {"a": SQRT}).name, "c")
        self.assertEqual(self.assert_raises(UnknownName, run_plan, (steps, [1]),
                                            {"c": SQRT, "e": ZERO, "d": ZERO}).name, "a")

    def test_the_order_of_the_errors(self):
        steps = [("unity", 0), ("name", "m"), ("join", 1, 1), ("name", "q")]
        self.assertEqual(self.assert_raises(InvalidRoad, run_plan, (steps, []), BAGS, road="rows").road, "rows")
        self.assertEqual(self.assert_raises(InvalidRoad, run_plan, ([], []), {}, road="").road, "")
        self.assert_raises(UnknownName, run_plan, (steps, []), BAGS)
        self.assert_raises(SizeExceeded, run_plan, (steps, []), {**BAGS, "q": ZERO})
        self.assert_raises(InvalidOrder, run_plan, (steps[:2], []), BAGS)

    def test_errors_step_by_step(self):
        power, order = ("power", 0, 17), ("unity", 151)
        for road in ROADS:
            self.assert_raises(InvalidExponent, run_plan, ([("name", "z"), power, order], []), BAGS, road=road)
            self.assert_raises(InvalidOrder, run_plan, ([("name", "z"), order, power], []), BAGS, road=road)
            self.assert_raises(DigitsExceeded, run_plan, ([("name", "l"), ("join", 0, 0), power], []), BAGS, road=road)
            self.assert_raises(ContainsZero, run_plan, ([("name", "z"), ("quotient", 0, 0), order], [0]), BAGS,
                               road=road)

    def test_bounds_as_in_evaluation(self):
        for steps in ([("name", "m"), ("distinct", 0), ("join", 1, 1)], [("unity", 101)],
                      [("name", "m"), ("sums", 0, 2)],
                      [("name", "m"), ("without", 0, 0), ("unity", 1), ("join", 1, 2)]):
            self.assert_raises(SizeExceeded, run_plan, (steps, []), BAGS)
        # The bounds of the steps would be very great numbers if they were all computed.
        steps = [("name", "m")] + [("product", at, at) for at in range(440)]
        self.assert_raises(SizeExceeded, run_plan, (steps, [0]), BAGS)

    def test_keys_their_order_and_arguments_that_stay(self):
        plan = compiled(parse_term("a - b"))
        before = copy.deepcopy(plan)
        bags = {"b": CUBIC, "x y": ZERO, "a": SQRT, "": WIDE}
        names = list(bags)
        self.assertEqual(run_plan(plan, bags), [SQRT - CUBIC])
        self.assertEqual(run_plan(plan, {"a": SQRT, "b": CUBIC}), [SQRT - CUBIC])
        self.assertEqual((plan, list(bags)), (before, names))
        plan_trees(plan).clear()
        plan_table(plan).clear()
        self.assertEqual(plan, before)


class PlanTable(BagCase):
    def test_lines(self):
        self.assertEqual(plan_table(([], [])), [])
        self.assertEqual(plan_table(([("name", "a"), ("sum", 0, 0)], [1])),
                         ["  0 name      |      ", "  1 sum       |   0,0"])
        plan = compiled(parse_term("map([1], a ^ 3) - sums({1}, 2) / unity(3) | distinct(-b)"))
        self.assertEqual(plan_table(plan=plan), [
            "  0 name      |      ",
            "  1 power     |     0",
            "  2 map       |     1",
            "  3 list      |      ",
            "  4 sums      |     3",
            "  5 unity     |      ",
            "  6 quotient  |   4,5",
            "  7 difference|   2,6",
            "  8 name      |      ",
            "  9 negative  |     8",
            " 10 distinct  |     9",
            " 11 join      |  7,10"])

    def test_other_words(self):
        steps = [("name", "a"), ("roots", ((1, 1),)), ("products", 1, 0), ("common", 2, 0), ("without", 3, 1),
                 ("product", 4, 2)]
        self.assertEqual(plan_table((tuple(steps), ())), [
            "  0 name      |      ", "  1 roots     |      ", "  2 products  |     1", "  3 common    |   2,0",
            "  4 without   |   3,1", "  5 product   |   4,2"])

    def test_longer_texts_are_not_cut(self):
        steps = [("name", "a")] + [("common", at, at) for at in range(1200)]
        lines = plan_table((steps, []))
        self.assertEqual(lines[12], " 12 common    | 11,11")
        self.assertEqual(lines[102], "102 common    |101,101")
        self.assertEqual(lines[1000], "1000 common    |999,999")
        self.assertEqual(lines[1002], "1002 common    |1001,1001")


if __name__ == "__main__":
    unittest.main()
