import unittest

from rootbags.console import Console
from rootbags.shelf import LoggedShelf, Shelf
from support import BagCase


class ConsoleCase(BagCase):
    def assert_answers(self, console, *pairs):
        for line, answer in pairs:
            self.assertEqual(console.run(line), answer, line)


class Lines(ConsoleCase):
    def test_commands(self):
        console = Console()
        self.assert_answers(
            console, ("names", "none"), ("define b roots([-2, 0, 1])", "ok"), ("define a b * b | {1/2}", "ok"),
            ("names", "a b"),
            ("show a", "b * b | {1/2}"), ("size a", "5"), ("size b", "2"), ("bag b", "-2, 0, 1"),
            ("bag a", "-8, 16, 4, -8, -1/2, 1"),
            ("round a", "no"), ("inside b a", "no"), ("inside b b", "yes"), ("replace a {1}|b", "ok"),
            ("show a", "{1} | b"),
            ("inside b a", "yes"), ("inside a b", "no"), ("rename b z", "ok"), ("show a", "{1} | z"), ("names", "a z"),
            ("undo", "ok"), ("names", "a b"), ("redo", "ok"), ("names", "a z"), ("drop a", "ok"), ("names", "z"),
            ("drop z", "ok"),
            ("names", "none"), ("undo", "ok"), ("undo", "ok"), ("undo", "ok"), ("undo", "ok"),
            ("show a", "b * b | {1/2}"))

    def test_values(self):
        console = Console()
        self.assert_answers(
            console, ("define e {}", "ok"), ("size e", "0"), ("bag e", "1"), ("round e", "yes"), ("inside e e", "yes"),
            ("define u unity(12) | {0}", "ok"), ("round u", "yes"), ("bag u", "0, 1, 0, -1, 0, 1"),
            ("inside e u", "yes"),
            ("define h {1/2, -3}", "ok"), ("bag h", "-3/2, 5/2, 1"), ("round h", "no"), ("size h", "2"),
            ("inside u e", "no"))

    def test_the_text_of_a_term(self):
        console = Console()
        self.assert_answers(
            console, ("define a  {1} ", "ok"), ("show a", "{1}"), ("replace a   { 2 }  ", "ok"), ("show a", "{2}"),
            ("define b ", "error InvalidText"), ("define b  ", "error InvalidText"),
            ("replace a ", "error InvalidText"),
            ("define b a  |  a", "ok"), ("show b", "a | a"), ("define c a b", "error InvalidText"))
        self.assertEqual(console.shelf().term("b")[0], "join")

    def test_invalid_lines(self):
        console = Console()
        console.run("define a {1}")
        for line in ("", " ", "  ", "define", "define ", "define a", "define  a {1}", " define b {1}", "define  ",
                     "replace",
                     "replace a", "replace  a {1}", "replace  ", "drop", "drop ", "drop  a", "drop a ", " drop a",
                     "drop a b",
                     "rename", "rename a", "rename a ", "rename  a b", "rename a  b", "rename a b ", "rename a b c",
                     "undo ",
                     " undo", "undo a", "undo 1", "redo ", " redo", "redo a", "names ", " names", "names a", "show",
                     "show ",
                     "show  a", "show a ", "show a b", "size", "size a ", "size a b", "bag", "bag a a", "bag  a",
                     "round",
                     "round a ", "round a b", "inside", "inside a", "inside a ", "inside a  a", "inside a a ",
                     "inside a a a",
                     "Names", "NAMES", "history", "define\na {1}", "names\n", "undo\n", "help", "a", "{1}", "value a",
                     "kept", "Define b {1}", "defineb {1}", "shows a", "room 5", "error", "ok", "invalid", "-",
                     "show\ta"):
            self.assertEqual(console.run(line), "invalid", line)
        self.assertEqual((console.shelf().names(), console.shelf().history()), (["a"], (1, 0)))

    def test_error_answers(self):
        console = Console()
        self.assert_answers(
            console, ("undo", "error EmptyHistory"), ("redo", "error EmptyHistory"), ("show a", "error UnknownName"),
            ("size a", "error UnknownName"), ("bag a", "error UnknownName"), ("round a", "error UnknownName"),
            ("inside a b", "error UnknownName"), ("drop a", "error UnknownName"), ("rename a b", "error UnknownName"),
            ("replace a {1}", "error UnknownName"), ("define A {1}", "error InvalidName"),
            ("define abcdefghi {}", "error InvalidName"),
            ("define a (", "error InvalidText"), ("define a " + "(" * 21, "error NestingTooDeep"),
            ("define 1 #", "error InvalidName"),
            ("define a " + "-" * 60 + "a", "error TermTooLarge"), ("define a b", "error UnknownName"),
            ("define a {0}", "ok"),
            ("define a {0}", "error DuplicateName"), ("rename a a", "error DuplicateName"),
            ("rename a B", "error InvalidName"),
            ("define b {1} / a", "ok"), ("bag b", "error ContainsZero"), ("drop a", "error NameInUse"),
            ("replace a b", "error CircularName"),
            ("define c unity(0)", "ok"), ("size c", "error InvalidOrder"), ("define d a ^ 17", "ok"),
            ("round d", "error InvalidExponent"),
            ("define e {" + ",".join("1" * 41) + "}", "ok"), ("size e", "error SizeExceeded"),
            ("define f {" + "9" * 99 + "} ^ 2", "ok"),
            ("bag f", "error DigitsExceeded"), ("define g map([1, 1, 1, 1, 1, 1, 1, 1], a)", "ok"),
            ("size g", "error InvalidPolynomial"),
            ("inside c b", "error InvalidOrder"), ("inside b c", "error ContainsZero"),
            ("inside a c", "error InvalidOrder"),
            ("inside c z", "error InvalidOrder"), ("inside z c", "error UnknownName"),
            ("inside a z", "error UnknownName"))
        console.shelf().room = 1
        self.assert_answers(console, ("define z {1}", "error LimitReached"), ("show 1", "error UnknownName"),
                            ("show #", "error UnknownName"), ("rename # #", "error UnknownName"),
                            ("drop {1}", "error UnknownName"))

    def test_refused_lines_have_no_effect(self):
        console = Console()
        console.run("define a {1}")
        before = console.shelf().twin()
        for line in ("define a {2}", "drop z", "rename a a", "replace a a", "define b (", "redo"):
            self.assertTrue(console.run(line).startswith("error "))
        self.assertEqual(console.shelf(), before)
        self.assertEqual(console.shelf().history(), before.history())

    def test_inside_computes_the_first_one_first(self):
        console = Console()
        self.assert_answers(console, ("define a {1} / {0}", "ok"), ("define b {1}", "ok"),
                            ("inside a b", "error ContainsZero"))
        self.assertEqual(console.shelf().kept(), [])
        self.assertEqual(console.run("inside b a"), "error ContainsZero")
        self.assertEqual(console.shelf().kept(), ["b"])

    def test_values_are_kept(self):
        console = Console()
        self.assert_answers(console, ("define a {1}", "ok"), ("define b a + a", "ok"), ("size b", "1"),
                            ("bag b", "-2, 1"),
                            ("round b", "no"), ("inside a b", "no"), ("show a", "{1}"), ("names", "a b"))
        self.assertEqual(console.shelf().computed, 2)


class Consoles(ConsoleCase):
    def test_the_very_shelf(self):
        for shelf in (Shelf(), LoggedShelf()):
            console = Console(shelf=shelf)
            self.assertIs(console.shelf(), shelf)
            console.run("define a {1}")
            self.assertEqual(shelf.names(), ["a"])
            self.assertIs(Console(shelf=shelf).shelf(), shelf)
        self.assertIsInstance(Console().shelf(), Shelf)
        self.assertIsInstance(Console(shelf=None).shelf(), Shelf)
        self.assertIsNot(Console().shelf(), Console().shelf())

    def test_two_consoles_with_one_shelf(self):
        shelf = Shelf()
        one, other = Console(shelf=shelf), Console(shelf=shelf)
        self.assert_answers(one, ("define a {1}", "ok"))
        self.assert_answers(other, ("show a", "{1}"), ("define b a", "ok"), ("undo", "ok"))
        self.assert_answers(one, ("names", "a"), ("redo", "ok"), ("names", "a b"))
        self.assertEqual((len(one), len(other)), (4, 3))
        self.assertEqual(other.log(), [("show a", "{1}"), ("define b a", "ok"), ("undo", "ok")])

    def test_a_logged_shelf(self):
        console = Console(shelf=LoggedShelf())
        for line in ("define a {1}", "drop z", "define b  a ", "rename b c", "undo", "nothing"):
            console.run(line)
        self.assertEqual(console.shelf().log(), [(("define", "a", "{1}"),), (("define", "b", " a "),)])
        self.assertEqual(console.shelf().refused, 1)

    def test_log_and_len(self):
        console = Console()
        self.assertEqual((console.log(), len(console)), ([], 0))
        lines = ["define a {1}", "", "show a", "show b", " undo", "undo", "names", "a\nb"]
        answers = [console.run(line=line) for line in lines]
        self.assertEqual(answers, ["ok", "invalid", "{1}", "error UnknownName", "invalid", "ok", "none", "invalid"])
        self.assertEqual(console.log(), list(zip(lines, answers)))
        self.assertEqual(len(console), 8)
        console.log().clear()
        self.assertEqual(len(console.log()), 8)


if __name__ == "__main__":
    unittest.main()
