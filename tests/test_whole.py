"""What the document promises over the whole package."""

import copy
import unittest
from fractions import Fraction
from math import comb, prod

from rootbags.bags import Bag
from rootbags.console import Console
from rootbags.errors import BagError, ContainsZero, InvalidNumber, InvalidRoad, Missing, SizeExceeded
from rootbags.evaluation import evaluate, size_bound, value_of
from rootbags.operations import (ROADS, choice_products, choice_sums, inverses, joined, mapped, pair_differences,
                                 pair_products, pair_quotients, pair_sums, powers, successive_powers)
from rootbags.parts import (common, containment, containment_holds, distinct, is_inside, meeting, meeting_holds,
                            parts_by_count, without)
from rootbags.plans import compiled, plan_table, plan_trees, run_plan
from rootbags.polynomials import cofactors, divided, greatest_divisor, value_at
from rootbags.rationals import lowest, number_text
from rootbags.reals import count_real
from rootbags.rounds import come_round, orders, round_holds, unity
from rootbags.rows import Row, first_difference, follows
from rootbags.shelf import LoggedShelf, Shelf
from rootbags.snapshots import read_snapshot, write_snapshot
from rootbags.terms import parse_term
from support import BagCase, Samples, bag_of, expected, found, pair, roots_of_unity, with_long_root

SQRT = Bag((-2, 0, 1))
EMPTY = Bag.of()
WIDE = Bag.of(*[1] * 40)
LONG = Bag.of(10 ** 100 - 1)
LONG_MANY = Bag((*range(10 ** 99, 10 ** 99 + 40), 1))
# Calls that take a rational where x stands.
TAKING = (
    lambda x: number_text(x),
    lambda x: value_at((1, x, 2), 3),
    lambda x: value_at((1, 2), x),
    lambda x: divided((x, 1, 1), (1, 2)),
    lambda x: divided((1, 1, 1), (1, x)),
    lambda x: greatest_divisor((x, 1), (1, 2)),
    lambda x: greatest_divisor((2, 1), (1, x)),
    lambda x: cofactors((x, 1), (1, 2)),
    lambda x: cofactors((2, 1), (1, x)),
    lambda x: Bag((1, x, 1)).coefficients(),
    lambda x: Bag((1, 1, x)).coefficients(),
    lambda x: Bag.of(1, x).coefficients(),
    lambda x: Bag.of_sums([1, x]).coefficients(),
    lambda x: Bag.of(1, (-3, 2)).often(x),
    lambda x: x in Bag.of(1, (-3, 2)),
    lambda x: mapped(SQRT, (1, x)).coefficients(),
    lambda x: count_real(SQRT, above=x),
    lambda x: count_real(SQRT, to=x),
    lambda x: count_real(SQRT, above=x, to=5),
    lambda x: count_real(SQRT, above=5, to=x),
    lambda x: containment_holds(SQRT, EMPTY, ("outside", EMPTY, (x,), (1,))),
    lambda x: containment_holds(SQRT, EMPTY, ("inside", EMPTY, (1,), (x,))),
    lambda x: meeting_holds(SQRT, EMPTY, ("apart", (1, x), (1,))),
    lambda x: meeting_holds(SQRT, EMPTY, ("none", (1,), (1, 2, x))),
    lambda x: Row(SQRT, 1, x).terms(5),
    lambda x: follows(SQRT, [1, x, 2]),
)


def outcome(call, *arguments, **named):
    """What a call returns, or the code of its error with its attributes."""
    try:
        return call(*arguments, **named)
    except (BagError, Missing) as error:
        return vars(error)


class Rationals(BagCase):
    def test_rationals_wherever_they_are_taken(self):
        for one, same in (((-3, 2), ((6, -4), (-6, 4), (3, -2), (-30, 20))), (3, ((3, 1), (-6, -2), (9, 3))),
                          (0, ((0, 1), (0, -7), (0, 10 ** 119))), ((1, 10 ** 40), ((-7, -7 * 10 ** 40),))):
            for call in TAKING:
                wanted = outcome(call, one)
                for other in same:
                    self.assertEqual(outcome(call, other), wanted)

    def test_the_denominator_zero(self):
        for wrong in ((1, 0), (0, 0), (-10 ** 119, 0)):
            for call in TAKING:
                self.assert_raises(InvalidNumber, call, wrong)

    def test_it_comes_before_other_errors(self):
        wrong = (1, 0)
        for call in (lambda: divided((wrong,), ()), lambda: divided((1,), (0, (0, 0))),
                     lambda: Bag((0,) * 449 + (wrong,)),
                     lambda: Bag((1,) * 60 + (wrong,)), lambda: Bag.of(*range(60), wrong),
                     lambda: Bag.of(10 ** 119, wrong),
                     lambda: Bag.of_sums([7, wrong]), lambda: Bag.of_sums([wrong]),
                     lambda: Bag.of_sums([60] + [wrong] * 60),
                     lambda: mapped(SQRT, (1,) * 8 + (wrong,)), lambda: mapped(EMPTY, (wrong,) + (1,) * 9),
                     lambda: count_real(SQRT, above=5, to=wrong), lambda: count_real(EMPTY, above=wrong, to=wrong),
                     lambda: Row(SQRT, wrong), lambda: Row(EMPTY, *range(300), wrong), lambda: follows(LONG, [wrong])):
            self.assert_raises(InvalidNumber, call)
        for road in ("", "sum", "Sums"):
            self.assertEqual(self.assert_raises(InvalidRoad, mapped, SQRT, (wrong,), road=road).road, road)

    def test_results_are_lowest(self):
        self.assertEqual(lowest(-10, -4), (5, 2))
        for values in (Bag((6, 4, 2)).coefficients(), Bag.of((6, 4)).power_sums(7),
                       Row(Bag.of((6, 4)), (4, 6)).terms(20),
                       list(Row(Bag.of((6, -4)), (4, 6)).walk()), [Row(Bag.of((6, 4)), (4, 6))(9)]):
            for above, below in values:
                self.assertEqual((above, below), (Fraction(above, below).numerator, Fraction(above, below).denominator))


class ManyNumbers(BagCase):
    """Bags of 14 numbers and more, computed one by one."""

    def lists(self, seed):
        samples = Samples(seed)
        for size in (14, 15, 17, 18, 20, 27, 40):
            for shape in range(2):
                if shape == 0:
                    yield samples, [Fraction(samples.random.choice([-1, 0, 1, 1, 2])) for _ in range(size)]
                else:
                    yield samples, samples.roots(size)

    def assert_found(self, roots, call, *arguments):
        for road in ROADS:
            self.assertEqual(found(call, *arguments, road=road), expected(roots), (call, roots))

    def test_single_bags(self):
        for _, roots in self.lists(951):
            bag = bag_of(roots)
            self.assert_found([root ** 2 for root in roots], powers, bag, 2)
            self.assert_found([root ** 5 for root in roots], powers, bag, 5)
            self.assert_found([1 for _ in roots], powers, bag, 0)
            self.assert_found([1 - root + root ** 3 for root in roots], mapped, bag, (1, -1, 0, 1))
            self.assert_found([Fraction(1, 3) for _ in roots], mapped, bag, ((1, 3),))
            self.assert_found([-root for root in roots], mapped, bag, (0, -1))
            self.assert_found(roots, choice_sums, bag, 1)
            self.assert_found([sum(roots) - root for root in roots], choice_sums, bag, len(roots) - 1)
            self.assert_found([sum(roots)], choice_sums, bag, len(roots))
            self.assert_found([], choice_products, bag, len(roots) + 1)
            self.assert_found(roots, choice_products, bag, 1)
            self.assert_found([prod(roots)], choice_products, bag, len(roots))
            self.assert_found([prod(roots[:at] + roots[at + 1:]) for at in range(len(roots))], choice_products, bag,
                              len(roots) - 1)
            if 0 in roots:
                self.assert_raises(ContainsZero, inverses, bag)
            else:
                self.assert_found([1 / root for root in roots], inverses, bag)
            self.assertEqual(found(lambda: -bag), expected([-root for root in roots]))

    def test_pairs(self):
        for samples, roots in self.lists(952):
            bag = bag_of(roots)
            others = [samples.roots(many) for many in (0, 1, 2, 3) if many * len(roots) <= 40]
            for other in others:
                second = bag_of(other)
                self.assert_found([x + y for x in roots for y in other], pair_sums, bag, second)
                self.assert_found([y - x for x in roots for y in other], pair_differences, second, bag)
                self.assert_found([x * y for x in roots for y in other], pair_products, bag, second)
                if 0 not in other:
                    self.assert_found([x / y for x in roots for y in other], pair_quotients, bag, second)
            for call in (pair_sums, pair_differences, pair_products):
                for road in ROADS:
                    self.assert_raises(SizeExceeded, call, bag, bag_of([1] * (40 // len(roots) + 1)), road=road)

    def test_parts(self):
        for samples, roots in self.lists(953):
            bag = bag_of(roots)
            other = [root for root in roots if samples.random.randrange(2)] + samples.roots(2)
            other = other[:40]
            shared = [root for root in set(roots) for _ in range(min(roots.count(root), other.count(root)))]
            rest = [root for root in set(roots) for _ in range(max(0, roots.count(root) - other.count(root)))]
            self.assertEqual(found(distinct, bag), expected(sorted(set(roots))))
            self.assertEqual(found(common, bag, bag_of(other)), expected(shared))
            self.assertEqual(found(without, bag, bag_of(other)), expected(rest))
            self.assertEqual(is_inside(bag_of(other), bag), len(shared) == len(other))
            self.assertEqual([count for count, _ in parts_by_count(bag)], sorted({roots.count(root) for root in roots}))
            for low in (Fraction(-2), Fraction(1, 2), Fraction(1)):
                self.assertEqual(count_real(bag, above=pair(low)), len([root for root in roots if root > low]))
            self.assertEqual(come_round(bag) == ("round",), all(root in (-1, 0, 1) for root in roots))
            sums = [sum(root ** exponent for root in roots) for exponent in range(10)]
            self.assertEqual(bag.power_sums(9), [pair(total) for total in sums])

    def test_choices_of_two(self):
        samples = Samples(954)
        for size in (8, 9):
            roots = samples.roots(size)
            pairs = [(x, y) for at, x in enumerate(roots) for y in roots[at + 1:]]
            self.assertEqual(len(pairs), comb(size, 2))
            self.assert_found([x + y for x, y in pairs], choice_sums, bag_of(roots), 2)
            self.assert_found([x * y for x, y in pairs], choice_products, bag_of(roots), 2)
        for many in (2, 3, 7, 8):
            for road in ROADS:
                self.assert_raises(SizeExceeded, choice_sums, Bag.of(*range(10)), many, road=road)

    def test_joins(self):
        for samples, roots in self.lists(955):
            other = samples.roots(40 - len(roots))
            self.assertEqual(found(joined, bag_of(roots), bag_of(other)), expected(roots + other))
            self.assert_raises(SizeExceeded, joined, bag_of(roots), bag_of(other), Bag.of(0))


class Digits(BagCase):
    def test_calls_that_return_no_bags_do_not_exceed_digits(self):
        bags = (LONG, LONG_MANY, with_long_root(roots_of_unity(1, 2, 4, 8, 16)), WIDE)
        for one in bags:
            for other in bags:
                self.assertIsInstance(is_inside(one, other), bool)
                self.assertIs(containment_holds(one, other, ("inside", one)), False)
                self.assertIs(meeting_holds(one, other, ("shared", EMPTY)), False)
                rows = [Row(bag, *range(bag.size)) for bag in (one, other)]
                self.assertIsInstance(first_difference(*rows), (int, type(None)))
            one.power_sums(50)
            self.assertIsInstance(count_real(one, above=0), int)
            self.assertIn(come_round(one)[0], ("round", "apart"))
            row = Row(one, *range(one.size))
            self.assertEqual(len(row.terms(60)), 60)
            row.residue(10 ** 9, 10 ** 9 + 7)
            self.assertIs(follows(one, [1] * 50), 1 in one)

    def test_plans_without_results_do(self):
        plan = ([("name", "a"), ("product", 0, 0)], [])
        for road in ROADS:
            self.assertEqual(outcome(run_plan, plan, {"a": LONG}, road=road)["code"], "DigitsExceeded")


class Arguments(BagCase):
    def test_tuples_for_lists(self):
        self.assertEqual(Bag.of_sums((2, 3, 5)), Bag.of(1, 2))
        self.assertIs(follows(SQRT, (1, 1, 2)), True)
        plan = compiled(parse_term("a + a"))
        for other in ((tuple(plan[0]), tuple(plan[1])), (plan[0], tuple(plan[1])), (tuple(plan[0]), plan[1])):
            self.assertEqual(run_plan(other, {"a": SQRT}), run_plan(plan, {"a": SQRT}))
            self.assertEqual((plan_trees(other), plan_table(other)), (plan_trees(plan), plan_table(plan)))
        commands = [("define", "a", "{1}"), ("define", "b", "a")]
        for kind in (Shelf, LoggedShelf):
            shelves = [kind(), kind()]
            shelves[0].apply_all(commands)
            shelves[1].apply_all(tuple(commands))
            self.assertEqual(*shelves)

    def test_arguments_are_not_changed(self):
        numbers, sums, commands = [1, (2, -4), 3], [2, 3, 5], [("define", "a", "{1}"), ("rename", "a", "b")]
        plan, sizes, bags = ([("name", "a"), ("sum", 0, 0)], [1]), {"b": 2, "a": 3}, {"b": EMPTY, "a": SQRT}
        before = copy.deepcopy((numbers, sums, commands, plan, sizes))
        names = list(bags)
        follows(SQRT, numbers)
        Bag.of_sums(sums)
        LoggedShelf().apply_all(commands)
        run_plan(plan, bags)
        plan_trees(plan)
        plan_table(plan)
        size_bound(parse_term("a"), sizes)
        evaluate(parse_term("a"), bags)
        value_of("a", **bags)
        self.assertEqual((numbers, sums, commands, plan, sizes), before)
        self.assertEqual((list(bags), bags["a"], list(sizes)), (names, SQRT, ["b", "a"]))

    def test_objects_copy_their_arguments(self):
        sums, parts, first, commands = [2, 3, 5], [1, 2, 3], [1, 2], [("define", "a", "{}")]
        bag, other, row, shelf = Bag.of_sums(sums), Bag(parts), Row(SQRT, *first), LoggedShelf()
        shelf.apply_all(commands)
        for values in (sums, parts, first, commands):
            values[0] = None
            values.clear()
        self.assertEqual((bag, other, row), (Bag.of(1, 2), Bag((1, 2, 3)), Row(SQRT, 1, 2)))
        self.assertEqual(shelf.log(), [(("define", "a", "{}"),)])

    def test_returned_lists_are_new_and_stay(self):
        shelf, console = LoggedShelf(), Console()
        shelf.apply_all([("define", "a", "{1}"), ("define", "b", "a")])
        shelf.value("b")
        console.run("names")
        bag, row = Bag.of(0, 1), Row(Bag.of(2), 1)
        calls = [bag.coefficients, bag.power_sums, lambda: row.terms(3), shelf.names, shelf.kept, shelf.table,
                 shelf.log,
                 lambda: shelf.users("a"), lambda: shelf.uses("b"), console.log, lambda: orders(bag),
                 lambda: parts_by_count(bag),
                 lambda: compiled(parse_term("a"))[0], lambda: compiled(parse_term("a"))[1]]
        for call in calls:
            values = call()
            self.assertIsInstance(values, list)
            kept = copy.copy(values)
            values.clear()
            self.assertEqual(call(), kept)
            self.assertTrue(kept)
        names, table, log, lines = shelf.names(), shelf.table(), shelf.log(), console.log()
        shelf.apply(("drop", "b"))
        console.run("undo")
        self.assertEqual((names, len(table), len(log), lines), (["a", "b"], 2, 1, [("names", "none")]))

    def test_generators_in_turns(self):
        one, other, row = successive_powers(SQRT, 3), successive_powers(Bag.of(3), 3), Row(Bag.of(2), 1)
        walks = [row.walk(first=first, many=4) for first in (0, 2)]
        for exponent in range(4):
            self.assertEqual(next(one), powers(SQRT, exponent))
            self.assertEqual([next(walk) for walk in walks], [(2 ** exponent, 1), (2 ** (exponent + 2), 1)])
            self.assertEqual(next(other), Bag.of(3 ** exponent))
        for generator in (one, other, *walks):
            self.assertIsNone(next(generator, None))

    def test_equal_calls_return_equal_results(self):
        tree = parse_term("a * a | {1}")
        for call in (lambda: evaluate(tree, {"a": SQRT}), lambda: containment(SQRT, Bag.of(1)),
                     lambda: meeting(SQRT, LONG),
                     lambda: come_round(SQRT), lambda: unity(12), lambda: read_snapshot("a = {1}\n"),
                     lambda: Row(SQRT, 1, 2) * Row(SQRT, 3, 4), lambda: write_snapshot(read_snapshot("a = {1}\n"))):
            self.assertEqual(call(), call())
        self.assertIs(round_holds(SQRT, come_round(SQRT)), True)

    def test_what_returns_nothing(self):
        for shelf in (Shelf(), LoggedShelf()):
            for call in (lambda: shelf.apply(("define", "a", "{}")), lambda: shelf.apply_all([]), shelf.undo,
                         shelf.redo,
                         lambda: shelf.set_room(5)):
                self.assertIsNone(call())


if __name__ == "__main__":
    unittest.main()
