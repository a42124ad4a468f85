import unittest
from fractions import Fraction
from math import comb, gcd

from rootbags.bags import Bag
from rootbags.errors import InvalidOrder, NotRound, SizeExceeded
from rootbags.operations import choice_products, joined, pair_products, pair_quotients, powers
from rootbags.parts import common, distinct, parts_by_count, without
from rootbags.rounds import come_round, orders, round_holds, squaring_result, unity
from support import BagCase, Samples, bag_of, fractions, times

EMPTY = Bag.of()
GOLDEN = Bag((-1, -1, 1))
# The polynomial of Lehmer: one number is a little greater than 1, so that many squarings are needed to see it.
LEHMER = Bag((1, 1, 0, -1, -1, -1, -1, -1, 0, 1, 1))
ORDERS = (*range(1, 11), 12)
GREAT = (154, 1000, 10 ** 6, 10 ** 40, 10 ** 119)


def primitive_roots(order):
    return len([number for number in range(1, order + 1) if gcd(number, order) == 1])


def squarings(size):
    """The number c of the document."""
    return 2 if size == 0 else 2 + len(f"{size:b}")


def expected_result(bag):
    """What come_round must return, by bags of squares."""
    size = bag.size
    bags = []
    for step in range(squarings(size) + 2):
        bags.append(bag if step == 0 else powers(bags[-1], 2))
        for at, (above, below) in enumerate(bags[-1].coefficients()):
            if below != 1 or abs(above) > comb(size, at):
                return ("apart", step, at)
    return ("round",) if bags[-1] == bags[-2] else ("moving",)


def put_together(pairs):
    """The bag that orders describes."""
    parts = [Bag.of(0) if order == 0 else unity(order) for order, count in pairs for _ in range(count)]
    return joined(*parts)


def random_pairs(samples, most=40):
    """Some pairs as orders returns them, of a bag with at most so many numbers."""
    found = {}
    left = samples.random.randrange(most + 1)
    for _ in range(30):
        order = samples.random.choice([0, *ORDERS])
        many = 1 if order == 0 else primitive_roots(order)
        if many <= left:
            found[order] = found.get(order, 0) + 1
            left -= many
    return sorted(found.items())


class Unity(BagCase):
    def test_each_order(self):
        for order in (*range(-2, 154), *GREAT, *[-order for order in GREAT]):
            if not 1 <= order <= 150:
                self.assertEqual(self.assert_raises(InvalidOrder, unity, order).order, order)
            elif primitive_roots(order) > 40:
                self.assert_raises(SizeExceeded, unity, order)
            else:
                self.assertEqual(unity(order).size, primitive_roots(order), order)

    def test_the_product_over_all_divisors(self):
        checked = 0
        for order in range(1, 151):
            if primitive_roots(order) <= 40:
                numbers = [Fraction(1)]
                for divisor in range(1, order + 1):
                    if order % divisor == 0:
                        numbers = times(numbers, fractions(unity(divisor).coefficients()))
                self.assertEqual(numbers, [-1] + [0] * (order - 1) + [1], order)
                checked += 1
        self.assertGreater(checked, 60)

    def test_some_bags(self):
        self.assertEqual(unity(1), Bag.of(1))
        self.assertEqual(unity(2), Bag.of(-1))
        self.assertEqual(unity(order=4), Bag((1, 0, 1)))
        self.assertEqual(unity(150).size, 40)
        for order in (7, 11, 41):
            self.assertEqual(unity(order), Bag((1,) * order))

    def test_each_number_has_the_order(self):
        for order in (3, 5, 8, 9, 10, 12, 15):
            bag = unity(order)
            self.assertEqual(distinct(bag), bag)
            for exponent in range(1, 17):
                ones = powers(bag, exponent) == Bag.of(*[1] * bag.size)
                self.assertEqual(ones, exponent % order == 0, (order, exponent))


class ComeRound(BagCase):
    def test_roots_of_unity_and_zeros(self):
        samples = Samples(301)
        for _ in range(60):
            bag = put_together(random_pairs(samples))
            self.assertEqual(come_round(bag), ("round",))
            self.assertEqual(expected_result(bag), ("round",))

    def test_all_orders(self):
        for order in range(1, 151):
            if primitive_roots(order) <= 40:
                self.assertEqual(come_round(unity(order)), ("round",), order)
                self.assertEqual(orders(unity(order)), [(order, 1)])

    def test_the_empty_bag(self):
        self.assertEqual(come_round(EMPTY), ("round",))
        self.assertEqual(orders(EMPTY), [])

    def test_many_zeros(self):
        for size in (1, 7, 39, 40):
            self.assertEqual(come_round(Bag.of(*[0] * size)), ("round",))
            self.assertEqual(orders(Bag.of(*[0] * size)), [(0, size)])
            self.assertEqual(orders(Bag.of(*[-1] * size)), [(2, size)])

    def test_bags_of_rationals(self):
        samples = Samples(302)
        for _ in range(200):
            many = samples.random.randrange(7)
            roots = [samples.random.choice([0, 0, 1, 1, -1, -1, 2, Fraction(1, 2), Fraction(-3, 2)])
                     for _ in range(many)]
            bag = bag_of(roots)
            result = come_round(bag)
            self.assertEqual(result, expected_result(bag), roots)
            self.assertEqual(result == ("round",), all(root in (0, 1, -1) for root in roots), roots)

    def test_rationals_with_their_squarings(self):
        self.assertEqual(come_round(Bag.of(2)), ("apart", 0, 0))
        self.assertEqual(come_round(Bag.of((1, 2))), ("apart", 0, 0))
        self.assertEqual(come_round(Bag.of(0, (1, 2))), ("apart", 0, 1))
        self.assertEqual(come_round(Bag.of(0, 0, -4)), ("apart", 0, 2))
        self.assertEqual(come_round(Bag.of(0, 0, -3)), ("apart", 1, 2))
        self.assertEqual(come_round(Bag.of(*[0] * 39, 2)), ("apart", 3, 39))
        self.assertEqual(come_round(Bag.of(*[0] * 39, 41)), ("apart", 0, 39))
        self.assertEqual(come_round(Bag.of(*[0] * 39, 40)), ("apart", 1, 39))

    def test_the_least_index_of_several(self):
        self.assertEqual(come_round(Bag((3, (1, 2), 1))), ("apart", 0, 0))
        self.assertEqual(come_round(Bag((1, (1, 2), 1))), ("apart", 0, 1))
        self.assertEqual(come_round(Bag((0, 4, 4, 1))), ("apart", 0, 1))
        self.assertEqual(come_round(Bag((0, 3, 4, 1))), ("apart", 0, 2))
        self.assertEqual(come_round(Bag((-1, 3, -3, 1))), ("round",))

    def test_other_polynomials(self):
        samples = Samples(303)
        for size in (1, 2, 3, 4, 6, 8, 12, 20, 31, 32, 40):
            for _ in range(12):
                bag = samples.bag(size, most=1)
                self.assertEqual(come_round(bag), expected_result(bag), bag.coefficients())

    def test_bags_that_come_round_joined_with_another_one(self):
        samples = Samples(304)
        for other in (GOLDEN, Bag((-2, 0, 1)), Bag.of(2), Bag.of((2, 3)), Bag((-1, -1, 0, 1)), LEHMER, Bag((2, 1, 2))):
            for _ in range(6):
                bag = put_together(random_pairs(samples, 40 - other.size)) | other
                result = come_round(bag)
                self.assertEqual(result[0], "apart")
                self.assertEqual(result, expected_result(bag))
                self.assert_raises(NotRound, orders, bag)

    def test_late_squarings(self):
        self.assertEqual(come_round(LEHMER), expected_result(LEHMER))
        self.assertGreaterEqual(come_round(LEHMER)[1], 4)
        late = LEHMER | Bag.of(*[1] * 30)
        self.assertEqual(come_round(late), expected_result(late))

    def test_the_third_form(self):
        # No bag is known for which come_round returns it: it takes fewer squarings than there are.
        least = come_round(LEHMER)[1]
        for squarings in range(1, least):
            self.assertEqual(squaring_result(LEHMER.whole, squarings), ("moving",))
        self.assertEqual(squaring_result(LEHMER.whole, least), come_round(LEHMER))
        self.assertEqual(squaring_result(unity(8).whole, 1), ("moving",))
        self.assertEqual(squaring_result(unity(8).whole, 4), ("round",))

    def test_long_numbers_do_not_exceed_digits(self):
        for number in (10 ** 99, -10 ** 100 + 1, (1, 10 ** 99), (10 ** 100 - 1, 10 ** 99)):
            self.assertEqual(come_round(Bag.of(number)), ("apart", 0, 0))
            self.assert_raises(NotRound, orders, Bag.of(number))
        self.assertEqual(come_round(Bag((1, *range(10 ** 99, 10 ** 99 + 39), 1))), ("apart", 0, 1))


class RoundHolds(BagCase):
    def test_returned_results(self):
        for bag in (EMPTY, GOLDEN, LEHMER, Bag.of(2), Bag.of((1, 2)), unity(12), Bag.of(0, 0, 1)):
            self.assertIs(round_holds(bag, come_round(bag)), True)

    def test_changed_results(self):
        for bag in (EMPTY, unity(12), Bag.of(0, 1)):
            for claimed in (("moving",), ("apart",), ("apart", 0, 0), ("round", 0), ("round", 0, 0), (), ("rounds",),
                            ("Round",), ("",)):
                self.assertIs(round_holds(bag, claimed), False, claimed)
        for claimed in (("apart", 1, 0), ("apart", 0, 1), ("apart", 2, 1), ("apart", 1, 2), ("apart", 1), ("apart",),
                        ("apart", 1, 1, 1), ("round",), ("moving",), ("round", 1, 1), (1, 1), ("apart", 1, -1), (),
                        ("apart", 10 ** 100, 1), ("aside", 1, 1), ("moving", 1, 1)):
            self.assertIs(round_holds(GOLDEN, claimed), False, claimed)
        self.assertIs(round_holds(bag=GOLDEN, claimed=("apart", 1, 1)), True)

    def test_samples(self):
        samples = Samples(305)
        for _ in range(40):
            bag = samples.bag(samples.random.randrange(1, 9), most=1)
            right = come_round(bag)
            for claimed in [("round",), ("moving",), *[("apart", step, at) for step in range(8) for at in range(10)]]:
                self.assertIs(round_holds(bag, claimed), claimed == right)


class Orders(BagCase):
    def test_put_together_again(self):
        samples = Samples(306)
        for _ in range(60):
            pairs = random_pairs(samples)
            bag = put_together(pairs)
            self.assertEqual(orders(bag), pairs)
            self.assertEqual(put_together(orders(bag)), bag)

    def test_rationals(self):
        self.assertEqual(orders(Bag.of(1, 0, -1, 1, 0, 0)), [(0, 3), (1, 2), (2, 1)])
        self.assertEqual(orders(bag=Bag.of(1)), [(1, 1)])
        for bag in (Bag.of(2), Bag.of(1, 2), Bag.of((1, 2)), Bag.of(0, 0, -2), GOLDEN, Bag((-2, 0, 1)), LEHMER):
            self.assert_raises(NotRound, orders, bag)

    def test_the_highest_orders(self):
        self.assertEqual(orders(unity(150)), [(150, 1)])
        self.assertEqual(orders(unity(41)), [(41, 1)])
        self.assertEqual(orders(unity(60) | unity(90)), [(60, 1), (90, 1)])
        self.assertEqual(orders(Bag((-1, *[0] * 39, 1))), [(order, 1) for order in (1, 2, 4, 5, 8, 10, 20, 40)])

    def test_a_returned_list_is_new(self):
        bag = Bag.of(0, 1)
        orders(bag).clear()
        self.assertEqual(orders(bag), [(0, 1), (1, 1)])


class WhatIsMadeOfThem(BagCase):
    def test_powers_products_joins_and_parts_come_round(self):
        samples = Samples(307)
        for _ in range(25):
            one, other = [put_together(random_pairs(samples, 6)) for _ in range(2)]
            bags = [one | other, pair_products(one, other), -one, common(one, other), without(one, other),
                    distinct(one)]
            bags += [powers(one, exponent) for exponent in (0, 1, 2, 3, 16)] + [choice_products(one, 2)]
            bags += [part for _, part in parts_by_count(one)]
            if 0 not in other:
                bags.append(pair_quotients(one, other))
            for bag in bags:
                self.assertEqual(come_round(bag), ("round",))
                self.assertEqual(put_together(orders(bag)), bag)

    def test_counts_of_joins_are_added(self):
        samples = Samples(308)
        for _ in range(20):
            one, other = random_pairs(samples, 20), random_pairs(samples, 20)
            together = dict(one)
            for order, count in other:
                together[order] = together.get(order, 0) + count
            self.assertEqual(orders(put_together(one) | put_together(other)), sorted(together.items()))

    def test_powers_have_other_orders(self):
        self.assertEqual(orders(powers(unity(12), 2)), [(6, 2)])
        self.assertEqual(orders(powers(unity(12), 12)), [(1, 4)])
        self.assertEqual(orders(powers(unity(7), 3)), [(7, 1)])
        self.assertEqual(orders(-unity(5)), [(10, 1)])


if __name__ == "__main__":
    unittest.main()
