import unittest
from random import Random

from rootbags.bags import Bag
from rootbags.errors import (BagError, CircularName, ContainsZero, DuplicateName, EmptyHistory, InvalidCommand,
                             InvalidLimit, InvalidName, InvalidText, LimitReached, Missing, NameInUse, NestingTooDeep,
                             SizeExceeded, TermTooLarge, UnknownName)
from rootbags.evaluation import evaluate
from rootbags.shelf import LoggedShelf, Shelf
from rootbags.terms import names_in, parse_term
from support import BagCase

WRONG_NAMES = ("", "A", "aB", "a1", "a b", " a", "a ", "abcdefghi", "-", "a\n", "{1}", "a_b", "1")
WRONG_COMMANDS = ((), ("",), ("define",), ("define", "a"), ("define", "a", "{}", "x"), ("replace", "a"), ("drop",),
                  ("drop", "a", "b"), ("rename", "a"), ("rename", "a", "b", "c"), ("undo",), ("Define", "a", "{}"),
                  ("define ", "a", "{}"), ("remove", "a"), ("a", "define", "{}"), ("replace",), ("drop", "a", ""))


def shelf_with(*lines, shelf=None):
    """A shelf with names and texts, each line `name text`, all in one step."""
    shelf = Shelf() if shelf is None else shelf
    shelf.apply_all([("define", *line.split(" ", 1)) for line in lines])
    return shelf


def state(shelf):
    """All that can be seen of a shelf without computing a value."""
    found = [[(name, shelf.term(name), shelf.uses(name), shelf.users(name)) for name in shelf.names()], shelf.history(),
             shelf.kept(), shelf.computed, shelf.room, len(shelf), repr(shelf), shelf.table()]
    if isinstance(shelf, LoggedShelf):
        found += [shelf.log(), shelf.refused]
    return found


class ShelfCase(BagCase):
    def assert_refused(self, error, shelf, *commands):
        """Return the error that commands raise, by apply and by apply_all; the shelf stays as it was."""
        before = state(shelf)
        caught = self.assert_raises(error, shelf.apply_all, list(commands))
        if len(commands) == 1:
            self.assertEqual(vars(self.assert_raises(error, shelf.apply, commands[0])), vars(caught))
        self.assertEqual(state(shelf), before)
        return caught

    def assert_names(self, shelf, **texts):
        self.assertEqual(shelf.names(), sorted(texts))
        for name, text in texts.items():
            self.assertEqual(shelf.term(name), parse_term(text))


class Commands(ShelfCase):
    def test_define(self):
        shelf = Shelf()
        self.assertIsNone(shelf.apply(("define", "b", "{1, 2}")))
        self.assertIsNone(shelf.apply(command=("define", "abcdefgh", " b+b ")))
        shelf.apply(("define", "roots", "roots([1]) | b"))
        self.assert_names(shelf, b="{1, 2}", abcdefgh="b + b", roots="roots([1]) | b")

    def test_errors_of_define(self):
        shelf = shelf_with("a {1}", "b a + a")
        for name in WRONG_NAMES:
            self.assertEqual(self.assert_refused(InvalidName, shelf, ("define", name, "#")).name, name)
        for name in ("a", "b"):
            self.assertEqual(self.assert_refused(DuplicateName, shelf, ("define", name, "#")).name, name)
        self.assertEqual(self.assert_refused(InvalidText, shelf, ("define", "c", "a +")).position, 3)
        self.assertEqual(self.assert_refused(InvalidText, shelf, ("define", "c", "z" * 401)).position, 400)
        self.assert_refused(NestingTooDeep, shelf, ("define", "c", "(" * 21))
        self.assert_refused(TermTooLarge, shelf, ("define", "c", "-" * 60 + "z"))
        self.assertEqual(self.assert_refused(UnknownName, shelf, ("define", "c", "z | a | y")).name, "y")
        self.assertEqual(self.assert_refused(UnknownName, shelf, ("define", "c", "c + a")).name, "c")
        shelf.room = 2
        for text in ("{1}", "#", "z", "(" * 21):
            self.assertEqual(self.assert_refused(LimitReached, shelf, ("define", "c", text)).limit, 2)
        self.assert_refused(InvalidName, shelf, ("define", "C", "{1}"))
        self.assert_refused(DuplicateName, shelf, ("define", "a", "{1}"))

    def test_replace(self):
        shelf = shelf_with("a {1}", "b a + a", "c {2}")
        self.assertIsNone(shelf.apply(("replace", "a", "c * c")))
        self.assert_names(shelf, a="c * c", b="a + a", c="{2}")
        shelf.apply(("replace", "b", "{}"))
        shelf.apply(("replace", "c", "b"))
        self.assert_names(shelf, a="c * c", b="{}", c="b")
        shelf.room = 1
        shelf.apply(("replace", "a", "{7}"))
        self.assert_names(shelf, a="{7}", b="{}", c="b")

    def test_errors_of_replace(self):
        shelf = shelf_with("a {1}", "b a + a", "c b | {1}", "d {1}")
        for name in ("z", *WRONG_NAMES):
            self.assertEqual(self.assert_refused(UnknownName, shelf, ("replace", name, "#")).name, name)
        self.assertEqual(self.assert_refused(InvalidText, shelf, ("replace", "a", "")).position, 0)
        self.assert_refused(NestingTooDeep, shelf, ("replace", "a", "(" * 21))
        self.assert_refused(TermTooLarge, shelf, ("replace", "a", "-" * 60 + "a"))
        self.assertEqual(self.assert_refused(UnknownName, shelf, ("replace", "a", "z + x + a")).name, "x")
        for text in ("a", "-a", "b", "c", "d | c", "common(d, b)"):
            self.assertEqual(self.assert_refused(CircularName, shelf, ("replace", "a", text)).name, "a")
        self.assertEqual(self.assert_refused(CircularName, shelf, ("replace", "b", "c")).name, "b")
        shelf.apply(("replace", "a", "d"))
        self.assertEqual(self.assert_refused(CircularName, shelf, ("replace", "d", "{2} | c")).name, "d")
        shelf.apply(("replace", "c", "d"))
        self.assert_refused(CircularName, shelf, ("replace", "d", "c"))

    def test_drop(self):
        shelf = shelf_with("a {1}", "b a + a", "c a | b")
        self.assertIsNone(shelf.apply(("drop", "c")))
        self.assert_names(shelf, a="{1}", b="a + a")
        shelf.apply_all([("drop", "b"), ("drop", "a")])
        self.assert_names(shelf)

    def test_errors_of_drop(self):
        shelf = shelf_with("x {1}", "d x", "c x | d", "b c")
        for name in ("z", *WRONG_NAMES):
            self.assertEqual(self.assert_refused(UnknownName, shelf, ("drop", name)).name, name)
        self.assertEqual(self.assert_refused(NameInUse, shelf, ("drop", "x")).name, "c")
        self.assertEqual(self.assert_refused(NameInUse, shelf, ("drop", "d")).name, "c")
        self.assertEqual(self.assert_refused(NameInUse, shelf, ("drop", "c")).name, "b")

    def test_rename(self):
        shelf = shelf_with("a {1}", "b a + a ^ 2", "c a | b")
        self.assertIsNone(shelf.apply(("rename", "a", "z")))
        self.assert_names(shelf, z="{1}", b="z + z ^ 2", c="z | b")
        shelf.apply(("rename", "b", "a"))
        self.assert_names(shelf, z="{1}", a="z + z ^ 2", c="z | a")
        shelf.apply(("rename", "c", "abcdefgh"))
        self.assert_names(shelf, z="{1}", a="z + z ^ 2", abcdefgh="z | a")

    def test_rename_in_each_kind_of_term(self):
        texts = ("-a", "a ^ 2", "map([1], a)", "sums(a, 1)", "products(a, 1)", "distinct(a)", "common(a, b)",
                 "without(b, a)", "a | b", "b + a", "a - b", "a * a", "b / a")
        for text in texts:
            shelf = shelf_with("a {1}", "b {2}", f"c {text}")
            shelf.apply(("rename", "a", "roots"))
            self.assertEqual(shelf.term("c"), renamed(text))

    def test_errors_of_rename(self):
        shelf = shelf_with("a {1}", "b a + a")
        for name in ("z", *WRONG_NAMES):
            self.assertEqual(self.assert_refused(UnknownName, shelf, ("rename", name, "")).name, name)
        for name in WRONG_NAMES:
            self.assertEqual(self.assert_refused(InvalidName, shelf, ("rename", "a", name)).name, name)
        self.assertEqual(self.assert_refused(DuplicateName, shelf, ("rename", "a", "b")).name, "b")
        self.assertEqual(self.assert_refused(DuplicateName, shelf, ("rename", "a", "a")).name, "a")
        shelf.room = 1
        shelf.apply(("rename", "a", "c"))
        self.assert_names(shelf, c="{1}", b="c + c")

    def test_invalid_commands(self):
        shelf = shelf_with("a {1}")
        for command in WRONG_COMMANDS:
            self.assertEqual(self.assert_refused(InvalidCommand, shelf, command).position, 0)

    def test_invalid_commands_of_lists_come_first(self):
        shelf = shelf_with("a {1}")
        fine, wrong = ("define", "b", "{1}"), ("drop", "z")
        for command in WRONG_COMMANDS:
            self.assertEqual(self.assert_refused(InvalidCommand, shelf, fine, command).position, 1)
            self.assertEqual(self.assert_refused(InvalidCommand, shelf, wrong, fine, command, ()).position, 2)
            self.assertEqual(self.assert_refused(InvalidCommand, shelf, command, fine, command).position, 0)
        self.assert_refused(UnknownName, shelf, fine, wrong)


def renamed(text):
    """The tree of a text with the name roots instead of a."""
    def changed(tree):
        if tree == ("name", "a"):
            return ("name", "roots")
        return tuple(changed(part) if isinstance(part, tuple) else part for part in tree)
    return changed(parse_term(text))


class Lists(ShelfCase):
    def test_a_list_is_one_step(self):
        shelf = Shelf()
        self.assertIsNone(shelf.apply_all([("define", "a", "{1}"), ("define", "b", "a"), ("rename", "a", "c"),
                                           ("drop", "b")]))
        self.assert_names(shelf, c="{1}")
        self.assertEqual(shelf.history(), (1, 0))
        shelf.apply_all(commands=(("replace", "c", "{2}"), ("define", "a", "c")))
        self.assertEqual(shelf.history(), (2, 0))
        shelf.undo()
        self.assert_names(shelf, c="{1}")
        shelf.undo()
        self.assert_names(shelf)

    def test_the_empty_list_is_a_step(self):
        shelf = shelf_with("a {1}")
        shelf.apply_all([])
        shelf.apply_all(())
        self.assertEqual(shelf.history(), (3, 0))
        shelf.undo()
        self.assert_names(shelf, a="{1}")
        shelf.apply_all([])
        self.assertEqual(shelf.history(), (3, 0))

    def test_an_error_undoes_all_commands(self):
        shelf = shelf_with("a {1}", "b a")
        shelf.value("b")
        self.assert_refused(UnknownName, shelf, ("define", "c", "a"), ("drop", "b"), ("drop", "z"))
        self.assert_refused(NameInUse, shelf, ("replace", "a", "{2}"), ("drop", "a"))
        self.assert_refused(InvalidText, shelf, ("rename", "a", "x"), ("replace", "x", ")"))
        self.assert_refused(UnknownName, shelf, ("rename", "a", "x"), ("replace", "b", "a"))
        self.assert_refused(DuplicateName, shelf, ("define", "c", "a"), ("define", "c", "a"))
        self.assert_refused(CircularName, shelf, ("define", "c", "b"), ("replace", "a", "c"))

    def test_commands_see_those_before_them(self):
        shelf = shelf_with("a {1}")
        shelf.apply_all([("define", "b", "a"), ("replace", "b", "{5}"), ("replace", "a", "b"), ("rename", "b", "c")])
        self.assert_names(shelf, a="c", c="{5}")
        shelf.room = 2
        shelf.apply_all([("replace", "a", "{}"), ("drop", "c"), ("define", "d", "a")])
        self.assert_names(shelf, a="{}", d="a")
        self.assertEqual(self.assert_refused(LimitReached, shelf, ("define", "e", "a"), ("drop", "d")).limit, 2)

    def test_arguments_stay(self):
        commands = [("define", "a", "{1}"), ("define", "b", "a")]
        for shelf in (Shelf(), LoggedShelf()):
            shelf.apply_all(commands)
            self.assertEqual(commands, [("define", "a", "{1}"), ("define", "b", "a")])


class Room(ShelfCase):
    def test_twelve_at_first(self):
        shelf = Shelf()
        self.assertEqual((shelf.room, Shelf.MOST, shelf.MOST), (12, 12, 12))
        for name in "abcdefghijkl":
            shelf.apply(("define", name, "{}"))
        self.assertEqual(len(shelf), 12)
        self.assertEqual(self.assert_refused(LimitReached, shelf, ("define", "m", "{}")).limit, 12)

    def test_changes(self):
        shelf = shelf_with("a {}", "b {}", "c {}")
        for room in (1, 2, 3):
            shelf.room = room
            self.assertEqual(shelf.room, room)
            self.assertEqual(self.assert_refused(LimitReached, shelf, ("define", "d", "{}")).limit, room)
        self.assertIsNone(shelf.set_room(4))
        self.assertEqual((shelf.room, shelf.history()), (4, (1, 0)))
        shelf.apply(("define", "d", "{}"))
        self.assertIsNone(shelf.set_room(value=1))
        shelf.undo()
        shelf.redo()
        self.assertEqual((shelf.room, len(shelf)), (1, 4))

    def test_less_room_than_names(self):
        shelf = shelf_with("a {}", "b {}", "c {}")
        shelf.room = 1
        shelf.apply(("drop", "a"))
        self.assert_refused(LimitReached, shelf, ("define", "a", "{}"))
        shelf.apply(("drop", "b"))
        self.assert_refused(LimitReached, shelf, ("define", "a", "{}"))
        shelf.apply(("drop", "c"))
        shelf.apply(("define", "a", "{}"))

    def test_invalid_limits(self):
        shelf = shelf_with("a {}")
        for room in (0, 13, -1, 10 ** 119, -10 ** 119):
            before = state(shelf)
            self.assertEqual(self.assert_raises(InvalidLimit, shelf.set_room, room).limit, room)
            self.assertEqual(self.assert_raises(InvalidLimit, setattr, shelf, "room", room).limit, room)
            self.assertEqual(state(shelf), before)
        for room in (1, 12):
            shelf.room = room
            self.assertEqual(shelf.room, room)


class History(ShelfCase):
    def test_undo_and_redo(self):
        shelf = Shelf()
        for error in (shelf.undo, shelf.redo):
            self.assert_raises(EmptyHistory, error)
        shelf.apply(("define", "a", "{1}"))
        shelf.apply(("define", "b", "a"))
        shelf.apply(("rename", "a", "c"))
        self.assertEqual(shelf.history(), (3, 0))
        self.assert_raises(EmptyHistory, shelf.redo)
        self.assertIsNone(shelf.undo())
        self.assert_names(shelf, a="{1}", b="a")
        self.assertEqual(shelf.history(), (2, 1))
        shelf.undo()
        shelf.undo()
        self.assertEqual(shelf.history(), (0, 3))
        self.assert_raises(EmptyHistory, shelf.undo)
        self.assert_names(shelf)
        self.assertIsNone(shelf.redo())
        shelf.redo()
        shelf.redo()
        self.assert_names(shelf, c="{1}", b="c")
        self.assertEqual(shelf.history(), (3, 0))

    def test_another_step_ends_redoing(self):
        shelf = shelf_with("a {1}")
        shelf.apply(("define", "b", "a"))
        shelf.undo()
        self.assert_refused(UnknownName, shelf, ("drop", "z"))
        self.assertEqual(shelf.history(), (1, 1))
        shelf.apply(("define", "c", "a"))
        self.assertEqual(shelf.history(), (2, 0))
        self.assert_raises(EmptyHistory, shelf.redo)
        shelf.undo()
        shelf.apply_all([])
        self.assert_raises(EmptyHistory, shelf.redo)


class Queries(ShelfCase):
    def test_names_terms_uses_and_users(self):
        shelf = shelf_with("z {1}", "b z + z", "a b | z", "c {}")
        self.assertEqual(shelf.names(), ["a", "b", "c", "z"])
        self.assertEqual(shelf.term("b"), ("sum", ("name", "z"), ("name", "z")))
        self.assertEqual([shelf.uses(name) for name in "abcz"], [["b", "z"], ["z"], [], []])
        self.assertEqual([shelf.users(name) for name in "abcz"], [[], ["a"], [], ["a", "b"]])
        self.assertEqual((shelf.term(name="c"), shelf.uses(name="c"), shelf.users(name="c")), (("list", ()), [], []))

    def test_unknown_names(self):
        shelf = shelf_with("a {1}")
        for call in (shelf.term, shelf.uses, shelf.users, shelf.value):
            for name in ("b", "", "A", "a "):
                self.assertEqual(self.assert_raises(UnknownName, call, name).name, name)

    def test_lists_are_new(self):
        shelf = shelf_with("a {1}", "b a")
        shelf.value("b")
        for call in (shelf.names, shelf.kept, shelf.table, lambda: shelf.uses("b"), lambda: shelf.users("a")):
            found = call()
            wanted = list(found)
            found.clear()
            self.assertEqual(call(), wanted)
            self.assertTrue(wanted)

    def test_table(self):
        shelf = shelf_with("b {2}^3", "abcdefgh (b|b)-b", "a {}")
        self.assertEqual(shelf.table(), ["a       |  1|{}", "abcdefgh|  5|(b | b) - b", "b       |  2|{2} ^ 3"])
        shelf.apply(("define", "long", "-" * 59 + "b"))
        self.assertEqual(shelf.table()[3], "long    | 60|" + "-" * 59 + "b")
        self.assertEqual(Shelf().table(), [])

    def test_operators(self):
        shelf = shelf_with("a {1}", "b a")
        self.assertEqual((len(shelf), repr(shelf), len(Shelf()), repr(Shelf())),
                         (2, "Shelf(2 names)", 0, "Shelf(0 names)"))
        self.assertEqual(repr(shelf_with("a {}", shelf=LoggedShelf())), "Shelf(1 names)")
        for name, there in (("a", True), ("b", True), ("c", False), ("", False), ("A", False)):
            self.assertIs(name in shelf, there)

    def test_equality(self):
        shelf = shelf_with("a {1}", "b a")
        same = shelf_with("b {1}", "a b")
        same.apply_all([("rename", "b", "x"), ("rename", "a", "b"), ("rename", "x", "a")])
        same.room = 5
        same.value("b")
        logged = shelf_with("a  { 1 } ", "b (a)", shelf=LoggedShelf())
        for other in (same, logged, shelf.twin()):
            self.assertTrue(shelf == other and other == shelf)
            self.assertFalse(shelf != other or other != shelf)
        for other in (Shelf(), shelf_with("a {1}"), shelf_with("a {1}", "b -a"), shelf_with("a {1}", "c a"), None, "a",
                      {"a": ("list", ((1, 1),)), "b": ("name", "a")}, ["a", "b"], LoggedShelf(), 2):
            self.assertFalse(shelf == other)
            self.assertTrue(shelf != other)
        self.assertEqual(Shelf(), LoggedShelf())


class Values(ShelfCase):
    def test_values(self):
        shelf = shelf_with("a roots([-2, 0, 1])", "b a * a", "c b | {1/2}")
        self.assertEqual(shelf.value("c"), Bag.of(2, 2, -2, -2, (1, 2)))
        self.assertEqual(shelf.value(name="a"), Bag((-2, 0, 1)))

    def test_names_that_are_not_kept_are_computed_first(self):
        shelf = shelf_with("a {1}", "b {2}", "c b + a", "d c * b", "e {3}")
        self.assertEqual((shelf.kept(), shelf.computed), ([], 0))
        shelf.value("b")
        self.assertEqual((shelf.kept(), shelf.computed), (["b"], 1))
        shelf.value("d")
        self.assertEqual((shelf.kept(), shelf.computed), (["a", "b", "c", "d"], 4))
        shelf.value("d")
        shelf.value("a")
        self.assertEqual(shelf.computed, 4)

    def test_errors_keep_what_was_computed_before(self):
        shelf = shelf_with("a {1}", "b {0}", "c a / b", "d {5}", "e a | c | d", "f d")
        self.assert_raises(ContainsZero, shelf.value, "e")
        self.assertEqual((shelf.kept(), shelf.computed), (["a", "b"], 2))
        self.assert_raises(ContainsZero, shelf.value, "e")
        self.assertEqual((shelf.kept(), shelf.computed), (["a", "b"], 2))
        shelf.value("f")
        self.assertEqual((shelf.kept(), shelf.computed), (["a", "b", "d", "f"], 4))
        self.assert_raises(ContainsZero, shelf.value, "c")
        shelf.apply(("replace", "b", "{2}"))
        self.assertEqual(shelf.kept(), ["a", "d", "f"])
        self.assertEqual(shelf.value("e"), Bag.of(1, (1, 2), 5))
        self.assertEqual((shelf.kept(), shelf.computed), (["a", "b", "c", "d", "e", "f"], 7))

    def test_errors_of_evaluate(self):
        shelf = shelf_with("a {" + ",".join("1" * 40) + "}", "b a + a", "c {1} / {0} | a", "d unity(0)", "e a | c")
        self.assert_raises(SizeExceeded, shelf.value, "b")
        self.assertEqual((shelf.kept(), shelf.computed), (["a"], 1))
        self.assert_raises(SizeExceeded, shelf.value, "c")
        # The values of the names come first, and only then the bound of the own term.
        self.assert_raises(SizeExceeded, shelf.value, "e")
        shelf.apply(("replace", "c", "{1} / {0}"))
        self.assert_raises(ContainsZero, shelf.value, "e")

    def test_the_ascending_order_of_errors(self):
        shelf = shelf_with("b unity(0)", "c {1} / {0}", "a {1}", "d c + b + a")
        with self.assertRaises(BagError) as caught:
            shelf.value("d")
        self.assertEqual(caught.exception.code, "InvalidOrder")
        self.assertEqual(shelf.kept(), ["a"])

    def test_kept_over_steps(self):
        shelf = shelf_with("a {1}", "b a + a", "c {3}", "d b | c")
        shelf.value("d")
        every = ["a", "b", "c", "d"]
        shelf.apply(("define", "e", "a"))
        self.assertEqual(shelf.kept(), every)
        shelf.apply(("replace", "c", "{3}"))
        self.assertEqual(shelf.kept(), every)
        shelf.apply(("replace", "c", "({3})"))
        self.assertEqual(shelf.kept(), every)
        shelf.apply(("replace", "c", "{4}"))
        self.assertEqual(shelf.kept(), ["a", "b"])
        shelf.undo()
        self.assertEqual((shelf.kept(), shelf.computed), (["a", "b"], 4))
        shelf.value("d")
        self.assertEqual((shelf.kept(), shelf.computed), (every, 6))
        shelf.redo()
        self.assertEqual(shelf.kept(), ["a", "b"])
        shelf.value("d")
        shelf.undo()
        self.assertEqual(shelf.kept(), ["a", "b"])

    def test_equal_bags_of_unequal_trees_are_not_kept(self):
        shelf = shelf_with("a {1}", "b a")
        shelf.value("b")
        shelf.apply(("replace", "a", "{1} | {}"))
        self.assertEqual(shelf.kept(), [])

    def test_renaming(self):
        shelf = shelf_with("a {1}", "b a", "c {2}")
        for name in "abc":
            shelf.value(name)
        shelf.apply(("rename", "b", "z"))
        self.assertEqual(shelf.kept(), ["a", "c"])
        shelf.value("z")
        shelf.apply(("rename", "a", "y"))
        self.assertEqual(shelf.kept(), ["c"])
        shelf.undo()
        self.assertEqual((shelf.kept(), shelf.computed), (["c"], 4))

    def test_names_that_are_dropped_and_come_back(self):
        shelf = shelf_with("a {1}")
        shelf.value("a")
        shelf.apply(("drop", "a"))
        self.assertEqual(shelf.kept(), [])
        shelf.undo()
        self.assertEqual(shelf.kept(), [])
        shelf.value("a")
        shelf.undo()
        shelf.redo()
        self.assertEqual((shelf.kept(), shelf.computed), ([], 2))

    def test_steps_are_compared_as_a_whole(self):
        shelf = shelf_with("a {1}", "b a + a", "c {3}")
        for name in "abc":
            shelf.value(name)
        for commands in ([("replace", "a", "{2}"), ("replace", "a", "{1}")],
                         [("rename", "a", "z"), ("rename", "z", "a")],
                         [("drop", "c"), ("define", "c", "{3}")], [("rename", "b", "x"), ("rename", "x", "b")],
                         [("define", "x", "a"), ("replace", "b", "x"), ("replace", "b", "a+a"), ("drop", "x")], []):
            shelf.apply_all(commands)
            self.assertEqual(shelf.kept(), ["a", "b", "c"], commands)
            shelf.undo()
            shelf.redo()
            self.assertEqual(shelf.kept(), ["a", "b", "c"], commands)
        for command in (("replace", "a", "{2}"), ("replace", "a", "{1}")):
            shelf.apply(command)
        self.assertEqual((shelf.kept(), shelf.computed), (["c"], 3))

    def test_swapped_names(self):
        shelf = shelf_with("a {1}", "b {2}", "c a - b", "d {}")
        shelf.value("c")
        shelf.value("d")
        shelf.apply_all([("rename", "a", "x"), ("rename", "b", "a"), ("rename", "x", "b")])
        self.assertEqual(shelf.kept(), ["d"])
        self.assertEqual(shelf.value("c"), Bag.of(-1))

    def test_changes_far_below(self):
        shelf = shelf_with("a {1}", *[f"{name} {before}" for before, name in zip("abcdefghij", "bcdefghijk")], "l {2}")
        shelf.value("k")
        shelf.value("l")
        self.assertEqual(shelf.computed, 12)
        shelf.apply(("replace", "d", "l"))
        self.assertEqual(shelf.kept(), ["a", "b", "c", "l"])
        self.assertEqual(shelf.value("k"), Bag.of(2))
        self.assertEqual(shelf.computed, 20)

    def test_many_ways_to_a_name(self):
        shelf = shelf_with("a {0, 1}", *[f"{name} common({before}, {before} | a)" for before, name in
                                         zip("abcdefghij", "bcdefghijk")])
        self.assertEqual(shelf.value("k"), Bag.of(0, 1))
        self.assertEqual(shelf.computed, 11)


class Twins(ShelfCase):
    def test_a_twin_has_all(self):
        for kind in (Shelf, LoggedShelf):
            shelf = shelf_with("a {1}", "b a", shelf=kind())
            shelf.apply(("define", "c", "b"))
            shelf.apply(("drop", "c"))
            shelf.undo()
            shelf.value("b")
            shelf.room = 5
            twin = shelf.twin()
            self.assertIs(type(twin), Shelf)
            self.assertEqual(state(twin), state(shelf)[:8])
            self.assertEqual(twin, shelf)
            self.assertEqual(state(twin.twin()), state(twin))
            self.assertIs(type(twin.twin()), Shelf)

    def test_they_are_independent(self):
        shelf = shelf_with("a {1}", "b a", shelf=LoggedShelf())
        shelf.apply(("define", "c", "b"))
        shelf.undo()
        twin = shelf.twin()
        other = twin.twin()
        before = state(shelf), state(twin), state(other)
        other.redo()
        other.value("c")
        other.apply(("replace", "a", "{2}"))
        other.set_room(3)
        self.assertEqual((state(shelf), state(twin)), before[:2])
        twin.undo()
        twin.apply_all([])
        self.assertEqual(state(shelf), before[0])
        after = state(twin), state(other)
        shelf.undo()
        shelf.room = 1
        shelf.apply(("define", "z", "{7}"))
        shelf.value("z")
        self.assertEqual((state(twin), state(other)), after)

    def test_they_go_on_alike(self):
        shelf = shelf_with("a {1}", "b a + a")
        shelf.value("a")
        shelf.apply(("replace", "b", "a"))
        twin = shelf.twin()
        for one in (shelf, twin):
            one.undo()
            one.value("b")
            one.redo()
            one.apply(("define", "x", "a | b"))
            one.value("x")
        self.assertEqual(state(shelf), state(twin))

    def test_an_empty_twin(self):
        self.assertEqual(state(Shelf().twin()), state(Shelf()))


class Logs(ShelfCase):
    def test_steps(self):
        shelf = LoggedShelf()
        self.assertEqual((shelf.log(), shelf.refused), ([], 0))
        self.assertIsInstance(shelf, Shelf)
        self.assertIsNone(shelf.apply(("define", "a", "{}")))
        self.assertIsNone(shelf.apply_all([("define", "b", "a"), ("drop", "b")]))
        shelf.apply_all(commands=[])
        shelf.apply(command=("rename", "a", "c"))
        steps = [(("define", "a", "{}"),), (("define", "b", "a"), ("drop", "b")), (), (("rename", "a", "c"),)]
        self.assertEqual(shelf.log(), steps)
        self.assertIsNone(shelf.undo())
        shelf.undo()
        self.assertEqual(shelf.log(), steps[:2])
        self.assertIsNone(shelf.redo())
        self.assertEqual(shelf.log(), steps[:3])
        shelf.apply(("define", "x", " a "))
        self.assertEqual(shelf.log(), steps[:3] + [(("define", "x", " a "),)])
        self.assert_raises(EmptyHistory, shelf.redo)
        self.assertEqual(len(shelf.log()), shelf.history()[0])

    def test_refused(self):
        shelf = LoggedShelf()
        for commands, many in (([()], 1), ([("drop", "a")], 2), ([("define", "a", "{}"), ("drop", "z")], 3)):
            with self.assertRaises((BagError, Missing)):
                shelf.apply_all(commands)
            self.assertEqual((shelf.refused, shelf.log(), shelf.history()), (many, [], (0, 0)))
        self.assert_raises(InvalidName, shelf.apply, ("define", "A", "{}"))
        for call in (shelf.undo, shelf.redo):
            self.assert_raises(EmptyHistory, call)
        self.assert_raises(UnknownName, shelf.value, "z")
        self.assert_raises(InvalidLimit, shelf.set_room, 0)
        self.assertEqual(shelf.refused, 4)
        shelf.apply(("define", "a", "{}"))
        shelf.undo()
        self.assertEqual((shelf.refused, shelf.log()), (4, []))
        self.assert_raises(UnknownName, shelf.apply, ("drop", "a"))
        shelf.redo()
        self.assertEqual((shelf.refused, shelf.log()), (5, [(("define", "a", "{}"),)]))

    def test_returned_and_passed_lists(self):
        shelf = LoggedShelf()
        commands = [("define", "a", "{}")]
        shelf.apply_all(commands)
        commands.append(("drop", "a"))
        shelf.log().clear()
        self.assertEqual(shelf.log(), [(("define", "a", "{}"),)])

    def test_it_does_the_same_as_a_shelf(self):
        shelf, logged = shelf_with("a {1}", "b a"), shelf_with("a {1}", "b a", shelf=LoggedShelf())
        for one in (shelf, logged):
            one.value("b")
            one.apply(("replace", "a", "{2}"))
            one.undo()
            one.room = 3
            one.redo()
            one.value("a")
        self.assertEqual(state(logged)[:8], state(shelf))


class Model:
    """A shelf in another form: all trees are compared with all trees that they need."""

    def __init__(self):
        self.trees, self.past, self.future, self.values, self.computed = {}, [], [], {}, 0

    def needed(self, trees, name):
        found = {name: trees[name]}
        for used in names_in(trees[name]):
            found.update(self.needed(trees, used))
        return found

    def change(self, trees):
        self.values = {name: bag for name, bag in self.values.items()
                       if name in trees and self.needed(trees, name) == self.needed(self.trees, name)}
        self.trees = trees

    def step(self, trees):
        self.past.append(self.trees)
        self.future = []
        self.change(trees)

    def undo(self):
        self.future.append(self.trees)
        self.change(self.past.pop())

    def redo(self):
        self.past.append(self.trees)
        self.change(self.future.pop())

    def value(self, name):
        for used in names_in(self.trees[name]):
            if used not in self.values:
                self.value(used)
        if name not in self.values:
            self.values[name] = evaluate(self.trees[name],
                                         {used: self.values[used] for used in names_in(self.trees[name])})
            self.computed += 1
        return self.values[name]


class Samples(ShelfCase):
    """Random calls; what a shelf keeps and counts is compared with the model."""

    TEXTS = ("{1}", "{0}", "{1, 2}", "a", "b", "a | b", "a + c", "c * d", "b / a", "-d", "distinct(e)",
             "common(a, f)", "f")
    NAMES = "abcdef"

    def random_command(self, random):
        word = random.choice(["define", "define", "replace", "replace", "drop", "rename"])
        name = random.choice(self.NAMES)
        if word == "drop":
            return (word, name)
        return (word, name, random.choice(self.NAMES) if word == "rename" else random.choice(self.TEXTS))

    def run_one(self, random, shelf, model):
        kind = random.randrange(10)
        if kind < 5:
            commands = [self.random_command(random) for _ in range(random.choice([0, 1, 1, 1, 2, 3]))]
            try:
                shelf.apply_all(commands)
            except (BagError, Missing):
                return
            model.step({name: shelf.term(name) for name in shelf.names()})
        elif kind < 8 and len(shelf) > 0:
            name = random.choice(shelf.names())
            results = []
            for call in (shelf.value, model.value):
                try:
                    results.append(call(name))
                except BagError as error:
                    results.append(error.code)
            self.assertEqual(results[0], results[1])
        elif kind == 8 and model.past:
            shelf.undo()
            model.undo()
        elif kind == 9 and model.future:
            shelf.redo()
            model.redo()

    def test_samples(self):
        random = Random(801)
        computed = 0
        for _ in range(200):
            shelf, model = random.choice([Shelf, LoggedShelf])(), Model()
            shelf.apply_all([("define", "a", "{1}"), ("define", "b", "a + a"), ("define", "c", "b | a"),
                             ("define", "d", "c")])
            model.step({name: shelf.term(name) for name in shelf.names()})
            for _ in range(60):
                self.run_one(random, shelf, model)
                if random.randrange(20) == 0:
                    shelf = shelf.twin()
                self.assertEqual({name: shelf.term(name) for name in shelf.names()}, model.trees)
                self.assertEqual(shelf.kept(), sorted(model.values))
                self.assertEqual(shelf.computed, model.computed)
                self.assertEqual(shelf.history(), (len(model.past), len(model.future)))
                for name in shelf.names():
                    self.assertEqual(shelf.users(name), [user for user in shelf.names() if name in shelf.uses(user)])
            computed += shelf.computed
        self.assertGreater(computed, 500)


if __name__ == "__main__":
    unittest.main()
