"""The examples of the document."""

import doctest
import unittest

EXAMPLES = """
>>> from rootbags.rationals import lowest
>>> lowest(6, -4)
(-3, 2)
>>> from rootbags.rationals import number_text
>>> number_text((6, -4))
'-3/2'
>>> from rootbags.rationals import parse_number
>>> parse_number('-3/2')
(-3, 2)
>>> from rootbags.polynomials import value_at
>>> value_at((1, 0, 1), (1, 2))
(5, 4)
>>> from rootbags.polynomials import divided
>>> divided((-1, 0, 1), (1, 1))
(((-1, 1), (1, 1)), ())
>>> from rootbags.polynomials import greatest_divisor
>>> greatest_divisor((-1, 0, 1), (2, 2))
((1, 1), (1, 1))
>>> from rootbags.bags import Bag
>>> Bag((-4, 0, 2)).coefficients()
[(-2, 1), (0, 1), (1, 1)]
>>> Bag.of(1, 2).coefficients()
[(2, 1), (-3, 1), (1, 1)]
>>> Bag.of_sums([2, 3, 5]) == Bag.of(1, 2)
True
>>> Bag((-2, 0, 1)).power_sums()
[(2, 1), (0, 1), (4, 1)]
>>> Bag.of(1, 2, 1).often(1)
2
>>> [(1, 2) in Bag((-1, 2)), repr(Bag.of())]
[True, 'Bag(0 numbers)']
>>> (Bag((-2, 0, 1)) + Bag.of(1)).coefficients()
[(-1, 1), (-2, 1), (1, 1)]
>>> from rootbags.operations import joined
>>> joined(Bag.of(1), Bag.of(), Bag.of(2)) == Bag.of(2, 1)
True
>>> from rootbags.operations import pair_products
>>> pair_products(Bag((-2, 0, 1)), Bag((-3, 0, 1)), road='matrices').coefficients()
[(36, 1), (0, 1), (-12, 1), (0, 1), (1, 1)]
>>> from rootbags.operations import inverses
>>> inverses(Bag((1, 3, 1))) == Bag((1, 3, 1))
True
>>> from rootbags.operations import powers
>>> powers(Bag((-2, 0, 1)), 2) == Bag.of(2, 2)
True
>>> from rootbags.operations import mapped
>>> mapped(Bag((-2, 0, 1)), (1, 2)).coefficients()
[(-7, 1), (-2, 1), (1, 1)]
>>> from rootbags.operations import choice_sums
>>> choice_sums(Bag.of(1, 2, 4), 2) == Bag.of(3, 5, 6)
True
>>> from rootbags.parts import without
>>> without(Bag.of(1, 1, 2), Bag.of(1, 3)) == Bag.of(1, 2)
True
>>> from rootbags.parts import is_inside
>>> is_inside(Bag((-2, 0, 1)), Bag((0, -2, 0, 1)))
True
>>> from rootbags.parts import containment
>>> containment(Bag.of(1), Bag.of(1, 2))[1] == Bag.of(2)
True
>>> from rootbags.parts import meeting
>>> meeting(Bag.of(1, 2), Bag.of(2, 3))[1] == Bag.of(2)
True
>>> from rootbags.parts import parts_by_count
>>> [count for count, part in parts_by_count(Bag.of(5, 7, 5))]
[1, 2]
>>> from rootbags.reals import count_real
>>> [count_real(Bag((-2, 0, 1))), count_real(Bag((-2, 0, 1)), above=0, to=1)]
[2, 0]
>>> from rootbags.rounds import unity
>>> unity(6).coefficients()
[(1, 1), (-1, 1), (1, 1)]
>>> from rootbags.rounds import come_round
>>> [come_round(Bag.of(0, -1)), come_round(Bag((-1, -1, 1)))]
[('round',), ('apart', 1, 1)]
>>> from rootbags.rounds import orders
>>> orders(Bag((0, -1, 0, 1)))
[(0, 1), (1, 1), (2, 1)]
>>> from rootbags.terms import parse_term
>>> parse_term('-a + {1, 2/4} ^ 2')
('sum', ('negative', ('name', 'a')), ('power', ('list', ((1, 1), (1, 2))), 2))
>>> from rootbags.terms import format_term
>>> format_term(parse_term('(a*b)|((c))-(d-e)'))
'a * b | c - (d - e)'
>>> from rootbags.terms import names_in
>>> names_in(parse_term('b + a * b'))
['a', 'b']
>>> from rootbags.terms import node_count
>>> node_count(parse_term('sums(a + {1}, 2)'))
4
>>> from rootbags.evaluation import size_bound
>>> size_bound(parse_term('sums(a, 2) | b'), {'a': 4, 'b': 1})
7
>>> from rootbags.evaluation import evaluate
>>> evaluate(parse_term('a + a'), {'a': Bag.of(1, 2)}) == Bag.of(2, 3, 3, 4)
True
>>> from rootbags.evaluation import value_of
>>> value_of('x * x', x=Bag.of(2)) == Bag.of(4)
True
>>> from rootbags.plans import compiled
>>> compiled(parse_term('a + a'))
([('name', 'a'), ('sum', 0, 0)], [1])
>>> from rootbags.plans import plan_trees
>>> plan_trees(([('name', 'a'), ('power', 0, 0)], [1]))
[('power', ('name', 'a'), 0)]
>>> from rootbags.plans import run_plan
>>> run_plan(([('name', 'a'), ('sum', 0, 0)], [1, 0]), {'a': Bag.of(3)}) == [Bag.of(6), Bag.of(3)]
True
>>> from rootbags.plans import plan_table
>>> plan_table(([('name', 'a'), ('sum', 0, 0)], [1]))
['  0 name      |      ', '  1 sum       |   0,0']
>>> from rootbags.rows import Row, first_difference
>>> first_difference(Row(Bag.of(1), 2), Row(Bag.of(1, 0), 2, 2)) is None
True
>>> from rootbags.rows import follows
>>> follows(Bag((-1, -1, 1)), [1, 1, 2, 3, 5])
True
>>> Row(Bag((-1, -1, 1)), 0, 1).terms(7)[-1]
(8, 1)
>>> Row(Bag.of((1, 2)), 3)(4)
(3, 16)
>>> list(Row(Bag.of(2), 1).walk(first=2, many=2))
[(4, 1), (8, 1)]
>>> Row(Bag.of(2), 1).residue(100, 7)
2
>>> (Row(Bag.of(2), 1) + Row(Bag.of(3), 1)).terms(3)
[(2, 1), (5, 1), (13, 1)]
>>> Row(Bag.of(2), 1).total().terms(4)
[(1, 1), (3, 1), (7, 1), (15, 1)]
>>> Row(Bag.of(2), 1).every(3, first=1).terms(2)
[(2, 1), (16, 1)]
>>> from rootbags.shelf import Shelf
>>> [len(Shelf()), Shelf.MOST, repr(Shelf())]
[0, 12, 'Shelf(0 names)']
>>> shelf = Shelf()
>>> shelf.apply_all([('define', 'a', '{2}'), ('define', 'b', 'a + a')])
>>> shelf.value('b').coefficients()
[(-4, 1), (1, 1)]
>>> [shelf.computed, shelf.kept()]
[2, ['a', 'b']]
>>> shelf = Shelf()
>>> shelf.apply(('define', 'a', '{2}^3'))
>>> shelf.table()
['a       |  2|{2} ^ 3']
>>> from rootbags.shelf import LoggedShelf
>>> shelf = LoggedShelf()
>>> shelf.apply(('define', 'a', '{}'))
>>> [shelf.log(), shelf.refused]
[[(('define', 'a', '{}'),)], 0]
>>> from rootbags.snapshots import read_snapshot, write_snapshot
>>> write_snapshot(read_snapshot('a = {1}\\nb = a | a\\n'))
'a = {1}\\nb = a | a\\n'
>>> from rootbags.console import Console
>>> console = Console()
>>> console.run('define a roots([-2, 0, 1])')
'ok'
>>> [console.run('bag a'), console.run('round a')]
['-2, 0, 1', 'no']
"""


class Examples(unittest.TestCase):
    def test_examples(self):
        examples = doctest.DocTestParser().get_doctest(EXAMPLES, {}, "examples", None, 0)
        result = doctest.DocTestRunner().run(examples)
        self.assertGreater(result.attempted, 90)
        self.assertEqual(result.failed, 0)


if __name__ == "__main__":
    unittest.main()
