import unittest
from collections import Counter

from rootbags.bags import Bag
from rootbags.errors import DigitsExceeded, InvalidNumber
from rootbags.parts import (common, containment, containment_holds, distinct, is_inside, meeting, meeting_holds,
                            parts_by_count, without)
from support import (LONG_ODD, LONG_POWERS, LONG_TWICE, SHORT_REST, BagCase, Samples, bag_of, digits, fractions, plus,
                     times)

SQRT = Bag((-2, 0, 1))
THREE = Bag((-3, 0, 1))
EMPTY = Bag.of()
ONES = Bag.of(1, 1, 1, 1, 1)
WRONG = ((1, 0), (0, 0), (-7, 0))


def elements(counter):
    return list(counter.elements())


def combination(u, one, v, other):
    """The fractions of u * p + v * q, p and q being the polynomials of the bags."""
    left = times(fractions(u), fractions(one.coefficients()))
    return plus(left, times(fractions(v), fractions(other.coefficients())))


def changed(poly):
    """Some polynomials that differ from a polynomial."""
    return [poly + ((1, 1),), ((poly[0][0] + 1, poly[0][1]),) + poly[1:] if poly else (1,), (5,) + poly]


class PartsCase(BagCase):
    def assert_polynomial(self, poly):
        self.assertIs(type(poly), tuple)
        self.assertNotEqual(poly[-1:], ((0, 1),))
        self.assertEqual(tuple((value.numerator, value.denominator) for value in fractions(poly)), poly)

    def samples(self, seed, many):
        """Bags with numbers that occur several times, some of them not rational."""
        samples = Samples(seed)
        places = [bag_of([value]) for value in (-1, 0, 1)] + [SQRT, THREE, Bag((1, 0, 1)), Bag((1, 3))]
        for _ in range(many):
            counts = []
            for _ in range(2):
                counts.append(Counter(samples.random.choices(range(len(places)), k=samples.random.randrange(7))))
            yield counts, lambda counter: self.together([places[at] for at in elements(counter)])

    def together(self, bags):
        whole = EMPTY
        for bag in bags:
            whole = whole | bag
        return whole


class Parts(PartsCase):
    def test_distinct(self):
        self.assertEqual(distinct(Bag.of(5, 7, 5)), Bag.of(7, 5))
        self.assertEqual(distinct(EMPTY), EMPTY)
        self.assertEqual(distinct(SQRT | SQRT | SQRT), SQRT)
        self.assertEqual(distinct(bag=Bag((0,) * 40 + (1,))), Bag.of(0))
        for (one, _), bag in self.samples(91, 100):
            self.assertEqual(distinct(bag(one)), bag(Counter(list(one))))

    def test_common(self):
        self.assertEqual(common(Bag.of(1, 1, 2), Bag.of(1, 3)), Bag.of(1))
        self.assertEqual(common(other=SQRT, one=THREE), EMPTY)
        for (one, other), bag in self.samples(92, 100):
            self.assertEqual(common(bag(one), bag(other)), bag(one & other))

    def test_without(self):
        self.assertEqual(without(Bag.of(1, 1, 2), Bag.of(1, 3)), Bag.of(1, 2))
        self.assertEqual(without(one=SQRT, other=SQRT), EMPTY)
        self.assertEqual(without(EMPTY, SQRT), EMPTY)
        self.assertEqual(without(SQRT, EMPTY), SQRT)
        for (one, other), bag in self.samples(93, 100):
            self.assertEqual(without(bag(one), bag(other)), bag(one - other))

    def test_is_inside(self):
        self.assertIs(is_inside(SQRT, Bag((0, -2, 0, 1))), True)
        self.assertIs(is_inside(one=Bag.of(1, 1), other=Bag.of(1, 2)), False)
        self.assertIs(is_inside(EMPTY, EMPTY), True)
        self.assertIs(is_inside(EMPTY, SQRT), True)
        self.assertIs(is_inside(SQRT, EMPTY), False)
        for (one, other), bag in self.samples(94, 200):
            self.assertIs(is_inside(bag(one), bag(other)), not one - other)
            self.assertIs(is_inside(bag(one & other), bag(other)), True)

    def test_long_bags(self):
        samples = Samples(95)
        one, other = [Bag((*[samples.nonzero(48) for _ in range(20)], 1)) for _ in range(2)]
        self.assertEqual(common(one | other, one), one)
        self.assertEqual(without(one | other, one), other)
        self.assertEqual(distinct(one | one), one)
        self.assertTrue(is_inside(other, one | other))
        self.assertFalse(is_inside(one | other, other))
        self.assertEqual(common(one, other), EMPTY)
        long = [Bag((*[samples.nonzero(99) for _ in range(40)], digits(100))) for _ in range(2)]
        self.assertEqual(common(*long), EMPTY)
        self.assertEqual(without(*long), long[0])
        self.assertEqual(distinct(long[0]), long[0])

    def test_numbers_that_are_zero_modulo_a_prime(self):
        # The quick test for common numbers takes all coefficients modulo 2 ** 61 - 1.
        prime = 2 ** 61 - 1
        for number in (prime, (1, prime), (5, 3 * prime)):
            one, other = Bag.of(number, number, 1), Bag.of(number, number, number, 2)
            self.assertEqual(common(one, other), Bag.of(number, number))
            self.assertEqual(without(other, one), Bag.of(number, 2))
            self.assertEqual(distinct(one), Bag.of(number, 1))
            self.assertEqual(meeting(one, other)[0], "shared")
            self.assertEqual(meeting(one, Bag.of(0, 5))[0], "apart")

    def test_parts_by_count(self):
        self.assertEqual(parts_by_count(Bag.of(5, 7, 5)), [(1, Bag.of(7)), (2, Bag.of(5))])
        self.assertEqual(parts_by_count(EMPTY), [])
        self.assertEqual(parts_by_count(bag=SQRT), [(1, SQRT)])
        self.assertEqual(parts_by_count(Bag((0,) * 40 + (1,))), [(40, Bag.of(0))])
        self.assertEqual(parts_by_count(SQRT | SQRT | SQRT | Bag.of(0)), [(1, Bag.of(0)), (3, SQRT)])
        for (one, _), bag in self.samples(96, 100):
            counts = sorted(set(one.values()))
            parts = [(many, bag(Counter(at for at in one if one[at] == many))) for many in counts]
            found = parts_by_count(bag(one))
            self.assertEqual(found, parts)
            self.assertIs(type(found), list)
            self.assertTrue(all(type(row) is tuple for row in found))

    def test_too_many_digits(self):
        self.assert_raises(DigitsExceeded, common, LONG_POWERS, LONG_ODD)
        self.assert_raises(DigitsExceeded, without, LONG_POWERS, SHORT_REST)
        self.assert_raises(DigitsExceeded, distinct, LONG_TWICE)
        self.assert_raises(DigitsExceeded, parts_by_count, LONG_TWICE)
        self.assertIs(is_inside(SHORT_REST, LONG_POWERS), True)
        self.assertIs(is_inside(ONES, LONG_POWERS), True)
        self.assertIs(is_inside(LONG_POWERS, LONG_ODD), False)


class Containment(PartsCase):
    def check(self, one, other):
        found = containment(one, other)
        self.assertIs(type(found), tuple)
        self.assertEqual(containment(one, other), found)
        if is_inside(one, other):
            self.assertEqual(found, ("inside", without(other, one)))
        else:
            self.assertEqual(found[:2], ("outside", common(one, other)))
            self.assertEqual(len(found), 4)
            for poly in found[2:]:
                self.assert_polynomial(poly)
            shared = found[1]
            self.assertEqual(combination(found[2], without(one, shared), found[3], without(other, shared)), [1])
        self.assertIs(containment_holds(one, other, found), True)
        return found

    def test_plain_cases(self):
        self.assertEqual(self.check(Bag.of(1), Bag.of(1, 2)), ("inside", Bag.of(2)))
        self.assertEqual(self.check(SQRT, SQRT), ("inside", EMPTY))
        self.assertEqual(self.check(EMPTY, SQRT), ("inside", SQRT))
        self.assertEqual(self.check(EMPTY, EMPTY), ("inside", EMPTY))
        self.assertEqual(self.check(SQRT, EMPTY)[1], EMPTY)
        self.assertEqual(self.check(Bag.of(1, 1), Bag.of(1, 2))[1], Bag.of(1))
        self.assertEqual(self.check(Bag.of(1, 2), Bag.of(1))[1], Bag.of(1))
        self.assertEqual(containment(other=Bag.of(1, 2), one=Bag.of(1)), ("inside", Bag.of(2)))

    def test_samples(self):
        for (one, other), bag in self.samples(97, 100):
            self.check(bag(one), bag(other))
        samples = Samples(98)
        for _ in range(50):
            self.check(samples.bag(samples.random.randrange(6)), samples.bag(samples.random.randrange(6)))
        self.check(samples.bag(40), samples.bag(40))

    def test_too_many_digits(self):
        self.assert_raises(DigitsExceeded, containment, SHORT_REST, LONG_POWERS)
        self.assert_raises(DigitsExceeded, containment, LONG_POWERS, LONG_ODD)

    def test_other_bags_in_claims(self):
        one, other = Bag.of(1, 2), Bag.of(1, 2, 3, 3)
        for rest, holds in ((Bag.of(3, 3), True), (Bag.of(3), False), (EMPTY, False), (other, False), (SQRT, False)):
            self.assertIs(containment_holds(one, other, ("inside", rest)), holds)
        self.assertIs(containment_holds(other, one, ("inside", Bag.of(3, 3))), False)
        self.assertIs(containment_holds(claimed=("inside", EMPTY), one=SQRT, other=SQRT), True)

    def test_claims_that_do_not_hold(self):
        for one, other in ((Bag.of(1, 1), Bag.of(1, 2)), (SQRT, THREE), (SQRT | Bag.of(1), Bag.of(1)), (SQRT, EMPTY)):
            word, shared, u, v = containment(one, other)
            for poly in changed(u):
                self.assertIs(containment_holds(one, other, (word, shared, poly, v)), False)
            for poly in changed(v):
                holds = combination(u, without(one, shared), poly, without(other, shared)) == [1]
                self.assertIs(containment_holds(one, other, (word, shared, u, poly)), holds)
            for bag in (one, other, EMPTY, SQRT, Bag.of(5), one | other):
                if bag != shared:
                    self.assertIs(containment_holds(one, other, (word, bag, u, v)), False)
            for text in ("inside", "Outside", "", "apart", "shared", "outside "):
                self.assertIs(containment_holds(one, other, (text, shared, u, v)), False)
                self.assertIs(containment_holds(one, other, (text, shared)), False)
            self.assertIs(containment_holds(one, other, ("outside", shared)), False)

    def test_claims_of_the_other_length_for_bags_that_are_inside(self):
        one, other = Bag.of(1), Bag.of(1, 2)
        self.assertIs(containment_holds(one, other, ("inside", Bag.of(2), (), ())), False)
        self.assertIs(containment_holds(one, other, ("inside", Bag.of(2), (1,), (1,))), False)
        for text in ("outside", "Inside", "", "shared"):
            self.assertIs(containment_holds(one, other, (text, Bag.of(2))), False)

    def test_what_is_shared_must_not_be_the_whole(self):
        # p is 1 here, so that u = 1 and v = 0 would be enough.
        self.assertIs(containment_holds(Bag.of(1), Bag.of(1, 2), ("outside", Bag.of(1), (1,), ())), False)
        self.assertIs(containment_holds(SQRT, SQRT, ("outside", SQRT, (1,), ())), False)
        self.assertIs(containment_holds(EMPTY, SQRT, ("outside", EMPTY, (1,), ())), False)

    def test_polynomials_as_they_may_be_passed(self):
        one, other = Bag.of(1), Bag.of(2)
        # -1 * (x - 2) + 1 * (x - 1) = 1
        for u, v in (((1,), (-1,)), (((2, 2), 0), ((5, -5), (0, -3), 0)), ([1], [(-3, 3)])):
            self.assertIs(containment_holds(one, other, ("outside", EMPTY, u, v)), True)
        # Other polynomials hold as well: u + q and v - p.
        self.assertIs(containment_holds(one, other, ("outside", EMPTY, (-1, 1), (0, -1))), True)
        self.assertIs(containment_holds(one, other, ("outside", EMPTY, (1,), (1,))), False)
        self.assertIs(containment_holds(one, other, ("outside", EMPTY, (), ())), False)

    def test_the_polynomials_are_divided_by_their_last_coefficients(self):
        one, other = Bag((1, 2)), Bag((1, 3))
        # 6 * (x + 1 / 2) - 6 * (x + 1 / 3) = 1
        self.assertIs(containment_holds(one, other, ("outside", EMPTY, (6,), (-6,))), True)
        self.assertIs(containment_holds(one, other, ("outside", EMPTY, (3,), (-2,))), False)

    def test_denominators_zero(self):
        for wrong in WRONG:
            for text in ("outside", "inside", "apart", ""):
                for bags in ((SQRT, THREE), (Bag.of(1), Bag.of(1, 2)), (EMPTY, EMPTY)):
                    for polys in (((wrong,), (1,)), ((1,), (1, wrong)), ((wrong, 0), (wrong,)), ((), (0, wrong))):
                        for shared in (EMPTY, Bag.of(9)):
                            with self.assertRaises(InvalidNumber):
                                containment_holds(*bags, (text, shared, *polys))

    def test_claims_have_no_limits(self):
        self.assertIs(containment_holds(SHORT_REST, LONG_POWERS, ("inside", ONES)), False)
        big = Bag((1,) * 41)
        self.assertIs(containment_holds(big, big, ("inside", big)), False)
        self.assertIs(containment_holds(LONG_POWERS, LONG_ODD, ("inside", LONG_ODD)), False)
        self.assertIs(containment_holds(LONG_POWERS, LONG_ODD, ("outside", ONES, (1,), (1,))), False)
        self.assertIs(containment_holds(LONG_POWERS, LONG_ODD, ("outside", EMPTY, (1,), (1,))), False)
        # one without shared has coefficients of more than 100 digits.
        one, other = LONG_POWERS, SHORT_REST
        self.assertIs(containment_holds(one, other, ("outside", SHORT_REST, (), (1,))), True)


class Meeting(PartsCase):
    def check(self, one, other):
        found = meeting(one, other)
        self.assertIs(type(found), tuple)
        self.assertEqual(meeting(one, other), found)
        shared = common(one, other)
        if shared:
            self.assertEqual(found, ("shared", shared))
        else:
            word, u, v = found
            self.assertEqual(word, "apart")
            self.assert_polynomial(u)
            self.assert_polynomial(v)
            self.assertEqual(combination(u, one, v, other), [1])
        self.assertIs(meeting_holds(one, other, found), True)
        return found

    def test_plain_cases(self):
        self.assertEqual(self.check(Bag.of(1, 2), Bag.of(2, 3)), ("shared", Bag.of(2)))
        self.assertEqual(self.check(SQRT, SQRT), ("shared", SQRT))
        for one, other in ((EMPTY, EMPTY), (EMPTY, SQRT), (SQRT, EMPTY), (SQRT, THREE), (Bag((1, 2)), Bag((1, 3)))):
            self.assertEqual(self.check(one, other)[0], "apart")
        self.assertEqual(meeting(other=Bag.of(2, 3), one=Bag.of(1, 2)), ("shared", Bag.of(2)))

    def test_samples(self):
        for (one, other), bag in self.samples(99, 100):
            self.check(bag(one), bag(other))
        samples = Samples(100)
        for _ in range(50):
            self.check(samples.bag(samples.random.randrange(6)), samples.bag(samples.random.randrange(6)))
        self.check(samples.bag(40), samples.bag(40))
        self.check(*[Bag((*[samples.nonzero(99) for _ in range(9)], digits(100))) for _ in range(2)])

    def test_digits(self):
        self.assert_raises(DigitsExceeded, meeting, LONG_POWERS, LONG_ODD)
        # No bag is returned here, and u and v have no limit.
        word, u, v = self.check(Bag((digits(100), 1, digits(100, 9))), Bag((digits(100, 3), 0, 0, digits(100, 1))))
        self.assertGreater(max(abs(value[0]) for value in u), 10 ** 100)

    def test_shared_claims(self):
        one, other = Bag.of(1, 1, 2), Bag.of(1, 1, 3) | SQRT
        for bag, holds in ((Bag.of(1), True), (Bag.of(1, 1), True), (EMPTY, False), (Bag.of(2), False),
                           (Bag.of(3), False), (Bag.of(1, 1, 1), False), (SQRT, False), (one, False)):
            self.assertIs(meeting_holds(one, other, ("shared", bag)), holds)
            self.assertIs(meeting_holds(claimed=("shared", bag), other=one, one=other), holds)
            for text in ("apart", "Shared", "", "inside"):
                self.assertIs(meeting_holds(one, other, (text, bag)), False)
        self.assertIs(meeting_holds(SQRT, THREE, ("shared", EMPTY)), False)
        self.assertIs(meeting_holds(EMPTY, EMPTY, ("shared", EMPTY)), False)
        self.assertIs(meeting_holds(LONG_POWERS, LONG_ODD, ("shared", ONES)), True)

    def test_apart_claims(self):
        for one, other in ((SQRT, THREE), (Bag.of(1), Bag.of(2)), (EMPTY, SQRT), (Bag((1, 2)), Bag((1, 3)))):
            word, u, v = meeting(one, other)
            for poly in changed(u):
                self.assertIs(meeting_holds(one, other, (word, poly, v)), combination(poly, one, v, other) == [1])
            for poly in changed(v):
                self.assertIs(meeting_holds(one, other, (word, u, poly)), combination(u, one, poly, other) == [1])
            for text in ("shared", "Apart", "", "outside"):
                self.assertIs(meeting_holds(one, other, (text, u, v)), False)
            self.assertIs(meeting_holds(one, other, ("apart", EMPTY)), False)
            moved = other | Bag.of(7)
            self.assertIs(meeting_holds(one, moved, (word, u, v)), combination(u, one, v, moved) == [1])
        self.assertIs(meeting_holds(Bag.of(1), Bag.of(2), ("apart", ((2, 2), 0), ((5, -5), 0))), True)
        self.assertIs(meeting_holds(Bag.of(1), Bag.of(2), ("apart", (), ())), False)
        self.assertIs(meeting_holds(SQRT, SQRT, ("apart", (1,), (-1,))), False)

    def test_denominators_zero(self):
        for wrong in WRONG:
            for text in ("apart", "shared", "outside", ""):
                for bags in ((SQRT, THREE), (SQRT, SQRT), (EMPTY, EMPTY)):
                    for polys in (((wrong,), (1,)), ((1,), (1, wrong)), ((wrong, 0), (wrong,)), ((), (0, wrong))):
                        with self.assertRaises(InvalidNumber):
                            meeting_holds(*bags, (text, *polys))


if __name__ == "__main__":
    unittest.main()
