import unittest
from fractions import Fraction

from rootbags.bags import Bag
from rootbags.errors import InvalidNumber
from rootbags.reals import count_real
from support import LONG_POWERS, LONG_TWICE, Samples, bag_of, digits, pair

SQRT = Bag((-2, 0, 1))
EMPTY = Bag.of()
NOT_REAL = Bag((1, 0, 1))


class CountReal(unittest.TestCase):
    def test_plain_cases(self):
        self.assertEqual([count_real(SQRT), count_real(SQRT, above=0, to=1)], [2, 0])
        self.assertEqual(count_real(SQRT, above=0), 1)
        self.assertEqual(count_real(SQRT, to=0), 1)
        self.assertEqual(count_real(SQRT, above=(14142, 10000), to=(14143, 10000)), 1)
        self.assertEqual(count_real(SQRT, above=(14143, 10000), to=2), 0)
        self.assertEqual(count_real(bag=SQRT, to=None, above=None), 2)

    def test_the_empty_bag(self):
        self.assertEqual(count_real(EMPTY), 0)
        self.assertEqual(count_real(EMPTY, above=0, to=1), 0)

    def test_numbers_that_are_not_real(self):
        self.assertEqual(count_real(NOT_REAL), 0)
        self.assertEqual(count_real(NOT_REAL | NOT_REAL | Bag.of(3, 3)), 2)
        self.assertEqual(count_real(Bag((-2, 0, 0, 1))), 1)
        self.assertEqual(count_real(Bag((-2, 0, 0, 1)), above=1, to=(5, 4)), 0)
        self.assertEqual(count_real(Bag((-2, 0, 0, 1)), above=(5, 4), to=(4, 3)), 1)
        self.assertEqual(count_real(Bag((-1, *[0] * 39, 1))), 2)
        self.assertEqual(count_real(Bag((-1, *[0] * 38, 1))), 1)

    def test_numbers_that_occur_several_times(self):
        bag = SQRT | SQRT | SQRT | Bag.of(0, 0, 1)
        self.assertEqual(count_real(bag), 9)
        self.assertEqual(count_real(bag, above=0), 4)
        self.assertEqual(count_real(bag, above=-1, to=0), 2)
        self.assertEqual(count_real(bag, above=1), 3)
        self.assertEqual(count_real(Bag((0,) * 40 + (1,))), 40)
        self.assertEqual(count_real(Bag((0,) * 40 + (1,)), above=0), 0)
        self.assertEqual(count_real(Bag((0,) * 40 + (1,)), to=0), 40)

    def test_bounds_that_occur(self):
        bag = Bag.of(1, 2, 2, 3)
        self.assertEqual([count_real(bag, above=k) for k in range(5)], [4, 3, 1, 0, 0])
        self.assertEqual([count_real(bag, to=k) for k in range(5)], [0, 1, 3, 4, 4])
        self.assertEqual(count_real(bag, above=1, to=2), 2)
        self.assertEqual(count_real(bag, above=2, to=3), 1)
        self.assertEqual(count_real(bag, above=(4, 4), to=(-6, -3)), 2)

    def test_exchanged_and_equal_bounds(self):
        bag = Bag.of(1, 2, 2, 3) | SQRT
        for above, to in ((2, 2), (2, 1), (3, -3), ((4, 2), (6, 3)), ((1, 2), (1, 3)), (10 ** 119, -10 ** 119)):
            self.assertEqual(count_real(bag, above=above, to=to), 0)

    def test_rationals(self):
        samples = Samples(101)
        for _ in range(300):
            roots = samples.roots(samples.random.randrange(8))
            more = samples.random.choice([EMPTY, NOT_REAL, NOT_REAL | NOT_REAL])
            bounds = [samples.random.choice([None] + samples.roots(3) + roots) for _ in range(2)]
            count = len([root for root in roots
                         if (bounds[0] is None or root > bounds[0]) and (bounds[1] is None or root <= bounds[1])])
            above, to = [None if bound is None else pair(bound) for bound in bounds]
            self.assertEqual(count_real(bag_of(roots) | more, above=above, to=to), count, (roots, bounds))

    def test_squares_of_rationals(self):
        # Each number r > 0 gives two numbers, the roots of x ** 2 - r; each r < 0 gives none that is real.
        samples = Samples(102)
        for _ in range(100):
            roots = [value or Fraction(5) for value in samples.roots(samples.random.randrange(6))]
            bag = EMPTY
            for value in roots:
                bag = bag | Bag((pair(-value), 0, 1))
            above = samples.random.randrange(0, 3)
            self.assertEqual(count_real(bag), 2 * len([value for value in roots if value > 0]))
            self.assertEqual(count_real(bag, above=above), len([value for value in roots if value > above ** 2]))
            self.assertEqual(count_real(bag, to=-above),
                             len([value for value in roots if value > 0 and value >= above ** 2]))

    def test_intervals_add_up(self):
        samples = Samples(103)
        for size in (5, 9, 20, 40):
            bag = samples.bag(size)
            places = [None, -5, -1, (-1, 2), 0, (1, 3), 1, (3, 2), 10, None]
            parts = [count_real(bag, above=low, to=high) for low, high in zip(places, places[1:])]
            self.assertEqual(sum(parts), count_real(bag))
            self.assertEqual((count_real(bag) - size) % 2, 0)

    def test_long_numbers_have_no_limit(self):
        self.assertEqual(count_real(LONG_POWERS), 5 + 4 + 1)
        self.assertEqual(count_real(LONG_TWICE), 2 + 1 + 1)
        self.assertEqual(count_real(LONG_TWICE, above=-4 * 10 ** 99), 3)
        self.assertEqual(count_real(LONG_TWICE, above=(-4 * 10 ** 118 - 1, 10 ** 19)), 4)
        self.assertEqual(count_real(LONG_TWICE, to=(-4 * 10 ** 118 - 1, 10 ** 19)), 0)
        long = Bag((-digits(100), *[0] * 19, 1))
        self.assertEqual(count_real(long), 2)
        self.assertEqual(count_real(long, above=(10 ** 119 + 1, 10 ** 115), to=(10 ** 119 + 1, 10 ** 114)), 1)

    def test_invalid_numbers(self):
        for wrong in ((1, 0), (0, 0), (-7, 0)):
            for bag in (EMPTY, SQRT, NOT_REAL):
                for bounds in ({"above": wrong}, {"to": wrong}, {"above": wrong, "to": 1}, {"above": 1, "to": wrong},
                               {"above": wrong, "to": wrong}):
                    with self.assertRaises(InvalidNumber):
                        count_real(bag, **bounds)

    def test_bounds_are_passed_by_name_only(self):
        with self.assertRaises(TypeError):
            count_real(SQRT, 0, 1)


if __name__ == "__main__":
    unittest.main()
