import copy
import unittest
from fractions import Fraction

from rootbags.bags import Bag
from rootbags.errors import (BagError, ContainsZero, DigitsExceeded, InvalidExponent, InvalidOrder, InvalidPolynomial,
                             InvalidRoad, InvalidText, Missing, NestingTooDeep, SizeExceeded, TermTooLarge, UnknownName)
from rootbags.evaluation import evaluate, size_bound, value_of
from rootbags.operations import (ROADS, choice_products, choice_sums, joined, mapped, pair_differences, pair_products,
                                 pair_quotients, pair_sums, powers)
from rootbags.parts import common, distinct, without
from rootbags.rounds import unity
from rootbags.terms import names_in, parse_term
from support import BagCase, Samples, bag_of
from term_support import ROOTS, TWO_OPERANDS, Fault, Trees, bound, full_text, subterms, values

EMPTY = Bag.of()
SQRT = Bag((-2, 0, 1))
CUBIC = Bag((1, -1, (1, 2), 2))
ZERO = Bag.of(0)
WIDE = Bag.of(*[0] * 40)
LONG = Bag.of(10 ** 99)


class RationalTrees(Trees):
    """Trees whose numbers are all rational, so that they can be computed one by one."""

    def leaf(self):
        word = self.random.choice(["list", "list", "name", "name", "name", "roots", "unity"])
        if word == "list":
            return ("list", tuple(self.rational() for _ in range(self.random.randrange(4))))
        if word == "roots":
            return ("roots", self.random.choice(list(ROOTS)))
        if word == "unity":
            return ("unity", self.random.choice([1, 2, 1, 2, 0, 151]))
        return ("name", self.random.choice(self.names))


def code_of(call, *arguments, **named):
    """The coefficients of the bag that a call returns, or the code of its error."""
    try:
        return call(*arguments, **named).coefficients()
    except (BagError, Missing) as error:
        return error.code


def expected_code(tree, lists):
    try:
        return bag_of(values(tree, lists)).coefficients()
    except Fault as fault:
        return fault.found[0]


def by_operations(tree, bags, road):
    """The bag of a tree by the operations themselves, the operands from left to right."""
    word = tree[0]
    if word == "map":
        return mapped(by_operations(tree[2], bags, road), tree[1], road=road)
    if word == "list":
        return Bag.of(*tree[1])
    if word == "roots":
        return Bag(tree[1])
    if word == "unity":
        return unity(tree[1])
    if word == "name":
        return bags[tree[1]]
    one = by_operations(tree[1], bags, road)
    if word == "negative":
        return -one
    if word == "distinct":
        return distinct(one)
    if word in ("power", "sums", "products"):
        call = {"power": powers, "sums": choice_sums, "products": choice_products}[word]
        return call(one, tree[2], road=road)
    other = by_operations(tree[2], bags, road)
    if word in ("join", "common", "without"):
        return {"join": joined, "common": common, "without": without}[word](one, other)
    calls = {"sum": pair_sums, "difference": pair_differences, "product": pair_products, "quotient": pair_quotients}
    return calls[word](one, other, road=road)


class SizeBound(BagCase):
    def test_each_kind_of_node(self):
        sizes = {"a": 4, "b": 3, "e": 0, "m": 1000}
        for text, size in (
                ("{}", 0), ("{1, 1, 2}", 3), ("roots([5])", 0), ("roots([0, 0, 1])", 2), ("unity(1)", 1),
                ("unity(12)", 4),
                ("unity(0)", 0), ("unity(151)", 0), ("unity(150)", 40), ("unity(149)", 148), ("a", 4), ("e", 0),
                ("a | b", 7),
                ("a + b", 12), ("a - b", 12), ("a * b", 12), ("a / b", 12), ("a + e", 0), ("-a", 4), ("a ^ 0", 4),
                ("a ^ 99", 4), ("map([1], a)", 4), ("map([], a)", 4), ("sums(a, 2)", 6), ("products(a, 2)", 6),
                ("sums(a, 0)", 1), ("sums(a, 4)", 1), ("sums(a, 5)", 0), ("products(e, 0)", 1), ("products(e, 1)", 0),
                ("distinct(a)", 4), ("distinct({1, 1})", 2), ("common(a, b)", 3), ("common(b, a)", 3),
                ("common(a, e)", 0),
                ("without(a, b)", 4), ("without(a, a)", 4), ("without(e, a)", 0), ("m * m * m", 10 ** 9),
                ("sums(m, 2)", 499500), ("sums(m, 998)", 499500), ("products(m, 1000)", 1), ("sums(m, 1001)", 0),
                (f"sums(m, {10 ** 99})", 0), ("sums(m * m, 999999)", 10 ** 6)):
            self.assertEqual(size_bound(parse_term(text), sizes), size, text)

    def test_samples(self):
        samples = Trees(501)
        for _ in range(300):
            tree = samples.tree(samples.random.randrange(1, 12))
            sizes = {name: samples.random.choice([0, 1, 2, 3, 10, 1000]) for name in samples.names}
            self.assertEqual(size_bound(tree, sizes), bound(tree, sizes), tree)

    def test_keys_and_their_order(self):
        tree = parse_term("a | b")
        self.assertEqual(size_bound(tree=tree, sizes={"b": 1, "a": 2}), 3)
        self.assertEqual(size_bound(tree, {"z": 9, "b": 1, "": 7, "a": 2, "A B": 1}), 3)

    def test_it_bounds_the_size(self):
        samples = RationalTrees(502, names=("a", "b"))
        lists = {"a": [Fraction(1), Fraction(2)], "b": [Fraction(1), Fraction(1), Fraction(3)]}
        bags = {name: bag_of(roots) for name, roots in lists.items()}
        for _ in range(150):
            tree = samples.tree(samples.random.randrange(1, 7))
            try:
                found = evaluate(tree, bags)
            except BagError:
                continue
            self.assertLessEqual(found.size, size_bound(tree, {"a": 2, "b": 3}))


class Evaluate(BagCase):
    def test_rationals_computed_one_by_one(self):
        samples = RationalTrees(503, names=("a", "b", "c"))
        numbers = Samples(504)
        seen = set()
        for _ in range(500):
            tree = samples.tree(samples.random.randrange(1, 9))
            lists = {name: numbers.roots(samples.random.randrange(4)) for name in ("a", "b", "c", "d")}
            bags = {name: bag_of(roots) for name, roots in lists.items()}
            wanted = expected_code(tree, lists)
            for road in ROADS:
                self.assertEqual(code_of(evaluate, tree, bags, road=road), wanted, (tree, lists))
            seen.add(wanted if isinstance(wanted, str) else "found")
        self.assertLessEqual({"found", "SizeExceeded", "ContainsZero", "InvalidOrder"}, seen)

    def test_long_numbers(self):
        samples = Samples(505)
        seen = {}
        for _ in range(60):
            many = samples.random.randrange(20, 61)
            roots = {}
            for name in "ab":
                shape = samples.random.randrange(3)
                values_of = [samples.nonzero(many) for _ in range(samples.random.randrange(1, 4))]
                roots[name] = [Fraction(value, samples.nonzero(many) if shape == 2 else 1) for value in values_of]
            bags = {name: bag_of(values_of) if code_of(bag_of, values_of) != "DigitsExceeded" else ZERO
                    for name, values_of in roots.items()}
            roots = {name: [Fraction(0)] if bags[name] == ZERO else roots[name] for name in "ab"}
            for text in ("a | b", "a + b", "a - b", "a * b", "a / b", "-a", "a ^ 0", "a ^ 1", "a ^ 2", "a ^ 3",
                         "a ^ 16",
                         "map([1, 2], a)", "map([0, 0, 1/3], a)", "map([5], a)", "map([1, 1, 1, 1, 1, 1, 1], a)",
                         "sums(a, 2)", "products(a, 2)", "sums(a, 1)", "products(b, 3)", "distinct(a | a)",
                         "common(a, b)", "without(a, b)", "common(a, a)", "without(a | b, b)", "a - a", "a / a"):
                tree = parse_term(text)
                wanted = expected_code(tree, roots)
                for road in ROADS:
                    self.assertEqual(code_of(evaluate, tree, bags, road=road), wanted, (text, roots))
                codes = seen.setdefault(tree[0], set())
                codes.add(wanted if isinstance(wanted, str) else "found")
        for word in (*TWO_OPERANDS[:5], "power", "map"):
            self.assertIn("DigitsExceeded", seen[word], word)
            self.assertIn("found", seen[word], word)

    def test_long_numbers_and_choices(self):
        for many in (20, 22, 24):
            roots = [Fraction(10 ** many + last) for last in (1, 3, 7, 9)]
            for text in ("sums(a, 2)", "products(a, 2)", "products(a, 3)", "a + a", "a * a", "map([0, 0, 1], a)"):
                for road in ROADS:
                    self.assert_raises(DigitsExceeded, evaluate, parse_term(text), {"a": bag_of(roots)}, road=road)
            for text in ("sums(a, 1)", "sums(a, 4)", "products(a, 4)", "sums(a, 5)", "products(a, 0)", "a ^ 1",
                         "a - a"):
                for road in ROADS:
                    wanted = expected_code(parse_term(text), {"a": roots})
                    self.assertEqual(code_of(evaluate, parse_term(text), {"a": bag_of(roots)}, road=road), wanted)

    def test_against_the_operations(self):
        samples = Trees(506, names=("a", "b", "c"))
        numbers = Samples(507)
        found = 0
        for _ in range(250):
            tree = samples.tree(samples.random.randrange(1, 8))
            bags = {name: numbers.bag(samples.random.randrange(3)) for name in ("a", "b", "c")}
            sizes = {name: bag.size for name, bag in bags.items()}
            for road in ROADS:
                if any(bound(part, sizes) > 40 for part in subterms(tree)):
                    wanted = "SizeExceeded"
                else:
                    wanted = code_of(by_operations, tree, bags, road)
                self.assertEqual(code_of(evaluate, tree, bags, road=road), wanted, tree)
            found += not isinstance(wanted, str)
        self.assertGreater(found, 100)

    def test_some_terms(self):
        bags = {"a": SQRT, "b": CUBIC}
        for text, bag in (("roots([-2, 0, 1])", SQRT), ("a * a", Bag.of(2, 2, -2, -2)), ("a ^ 2", Bag.of(2, 2)),
                          ("unity(4) * unity(4)", Bag.of(1, 1, -1, -1)), ("b - b", CUBIC - CUBIC),
                          ("{1} | {}", Bag.of(1)),
                          ("map([1, 0, 1], a)", Bag.of(3, 3)), ("sums(a, 2)", ZERO), ("products(a, 2)", Bag.of(-2)),
                          ("distinct(a | a)", SQRT), ("common(a | b, a)", SQRT), ("without(a | b, a)", CUBIC),
                          ("{} + a", EMPTY), ("sums(a, 3)", EMPTY), ("products({}, 0)", Bag.of(1)),
                          ("a / a", Bag.of(1, 1, -1, -1))):
            for road in ROADS:
                self.assertEqual(evaluate(parse_term(text), bags, road=road), bag, text)

    def test_unknown_names(self):
        tree = parse_term("d + b | c * a")
        self.assertEqual(self.assert_raises(UnknownName, evaluate, tree, {}).name, "a")
        self.assertEqual(self.assert_raises(UnknownName, evaluate, tree, {"a": SQRT, "d": SQRT}).name, "b")
        self.assertEqual(self.assert_raises(UnknownName, evaluate, tree, {"a": SQRT, "b": SQRT, "c": SQRT}).name, "d")
        self.assertEqual(self.assert_raises(UnknownName, evaluate, parse_term("b | aa"), {"a": SQRT}).name, "aa")

    def test_the_order_of_the_errors(self):
        unknown = parse_term("{1} / {0} | m + m | z")
        self.assertEqual(self.assert_raises(InvalidRoad, evaluate, unknown, {"m": WIDE}, road="rows").road, "rows")
        self.assertEqual(self.assert_raises(InvalidRoad, evaluate, parse_term("{}"), {}, road="").road, "")
        self.assert_raises(UnknownName, evaluate, unknown, {"m": WIDE})
        self.assert_raises(SizeExceeded, evaluate, unknown, {"m": WIDE, "z": ZERO})

    def test_sizes_before_anything_is_computed(self):
        bags = {"m": WIDE, "z": ZERO, "l": LONG}
        for text in ("{1} / z | m + m", "l * l | m + m", "unity(0) | unity(101)", "z ^ 17 | common(m | z, z)",
                     "map([1, 1, 1, 1, 1, 1, 1, 1], z) | m", "distinct(m | z)", "without(m | z, m | z)",
                     "{1} / {0} * (m | z)",
                     "sums(m, 2)", "products(m, 39) | z", "common(m + m, {}) | z", "sums(sums(m, 2), 0)",
                     "(m | z) * {}",
                     "roots([" + ",".join("1" * 42) + "])", "{" + ",".join("1" * 41) + "}", "unity(149)",
                     "sums(m | z, 99)"):
            for road in ROADS:
                self.assert_raises(SizeExceeded, evaluate, parse_term(text), bags, road=road)
        for text in ("m", "-m", "common(m, m)", "distinct(m)", "sums(m, 1)", "products(m, 40)", "m + z"):
            self.assertIsInstance(evaluate(parse_term(text), bags), Bag)

    def test_the_bound_counts_and_not_the_size(self):
        self.assert_raises(SizeExceeded, evaluate, parse_term("distinct(m) | z"), {"m": WIDE, "z": ZERO})
        self.assert_raises(SizeExceeded, evaluate, parse_term("distinct(m) * {1, 2}"), {"m": WIDE})
        self.assert_raises(SizeExceeded, evaluate, parse_term("without(m, m) | {1}"), {"m": WIDE})
        self.assertEqual(evaluate(parse_term("without(m, m) | common(m, {})"), {"m": WIDE}), EMPTY)

    def test_errors_of_the_operations_from_left_to_right(self):
        bags = {"z": ZERO, "l": LONG}
        for text, error in (
                ("{1} / z | l * l", ContainsZero), ("l * l | {1} / z", DigitsExceeded), ("l * l / z", DigitsExceeded),
                ("{1} / (l * l | z)", DigitsExceeded), ("unity(0) | z ^ 17", InvalidOrder),
                ("z ^ 17 | unity(0)", InvalidExponent),
                ("map([1, 1, 1, 1, 1, 1, 1, 1], z) / z", InvalidPolynomial),
                ("z / map([1, 1, 1, 1, 1, 1, 1, 1], z)", InvalidPolynomial),
                ("(z / z) ^ 17", ContainsZero), ("common(unity(151), z / z)", InvalidOrder),
                ("without(z / z, unity(151))", ContainsZero),
                ("sums(l * l, 2)", DigitsExceeded), ("-(z / z)", ContainsZero), ("distinct(unity(0))", InvalidOrder),
                ("products(l | l, 2)", DigitsExceeded), ("(l | l) - (z / z)", DigitsExceeded), ("{} / z", ContainsZero),
                ("map([1, 1, 1, 1, 1, 1, 1, 1], {})", InvalidPolynomial), ("{} ^ 17", InvalidExponent),
                ("roots([1, " + "9" * 100 + ", " + "7" * 99 + "1/3])", DigitsExceeded),
                ("{" + "9" * 100 + ", 2}", DigitsExceeded)):
            for road in ROADS:
                self.assert_raises(error, evaluate, parse_term(text), bags, road=road)
        self.assertEqual(self.assert_raises(InvalidOrder, evaluate, parse_term("unity(151)"), {}).order, 151)
        self.assertEqual(self.assert_raises(InvalidExponent, evaluate, parse_term("{1} ^ 17"), {}).exponent, 17)

    def test_keys_and_their_order(self):
        tree = parse_term("a - b")
        wanted = SQRT - CUBIC
        self.assertEqual(evaluate(tree=tree, bags={"a": SQRT, "b": CUBIC}), wanted)
        self.assertEqual(evaluate(tree, {"b": CUBIC, "a": SQRT}), wanted)
        self.assertEqual(evaluate(tree, {"z": WIDE, "b": CUBIC, "": LONG, "a": SQRT, "road": WIDE, "no name": ZERO}),
                         wanted)

    def test_the_dict_stays_as_it_was(self):
        bags = {"a": SQRT, "b": CUBIC}
        before = copy.copy(bags)
        evaluate(parse_term("a + b"), bags)
        self.assertEqual(bags, before)
        self.assertEqual(list(bags), list(before))


class ValueOf(BagCase):
    def test_bags_by_keyword(self):
        self.assertEqual(value_of("x * x", x=Bag.of(2)), Bag.of(4))
        self.assertEqual(value_of("a - b", b=CUBIC, a=SQRT, c=WIDE), SQRT - CUBIC)
        self.assertEqual(value_of(text="{1, 2}"), Bag.of(1, 2))
        self.assertEqual(value_of("tree | bags", tree=SQRT, bags=CUBIC), SQRT | CUBIC)
        self.assertEqual(value_of("name | self", name=SQRT, self=CUBIC, road="matrices"), SQRT | CUBIC)
        for road in ROADS:
            self.assertEqual(value_of("a + a", a=CUBIC, road=road), CUBIC + CUBIC)

    def test_names_that_cannot_have_bags(self):
        self.assertEqual(self.assert_raises(UnknownName, value_of, "text | a", a=SQRT).name, "text")
        self.assertEqual(self.assert_raises(UnknownName, value_of, "text + road", a=SQRT, road="sums").name, "road")

    def test_the_order_of_the_errors(self):
        self.assertEqual(self.assert_raises(InvalidText, value_of, "a +", road="rows").position, 3)
        self.assert_raises(InvalidText, value_of, "a" * 401, road="")
        self.assert_raises(NestingTooDeep, value_of, "(" * 21, road="rows")
        self.assert_raises(TermTooLarge, value_of, "-" * 60 + "a", road="rows")
        self.assertEqual(self.assert_raises(InvalidRoad, value_of, "a + b", road="Sums").road, "Sums")
        self.assert_raises(InvalidRoad, value_of, "{1} / {0}", road="matrices ")
        self.assertEqual(self.assert_raises(UnknownName, value_of, "{1} / {0} | m + m | b", m=WIDE).name, "b")
        self.assert_raises(SizeExceeded, value_of, "{1} / {0} | m + m", m=WIDE)
        self.assert_raises(ContainsZero, value_of, "{1} / {0} | m", m=EMPTY)

    def test_samples(self):
        samples = Trees(508, names=("a", "b"))
        for _ in range(60):
            tree = samples.tree(samples.random.randrange(1, 6))
            text = full_text(tree)
            for road in ROADS:
                wanted = code_of(evaluate, tree, {"a": SQRT, "b": CUBIC}, road=road)
                self.assertEqual(code_of(value_of, text, a=SQRT, b=CUBIC, road=road), wanted)
            self.assertLessEqual(set(names_in(tree)), {"a", "b"})


if __name__ == "__main__":
    unittest.main()
