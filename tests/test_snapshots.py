import re
import unittest
from random import Random

from rootbags.errors import BagError, InvalidSnapshot, LimitReached, Missing
from rootbags.shelf import LoggedShelf, Shelf
from rootbags.snapshots import read_snapshot, write_snapshot
from rootbags.terms import format_term, names_in, parse_term
from support import BagCase
from term_support import Trees

PLAIN = "a = {1}\nb = a | a\nc = -b ^ 2\n"
# 199 numbers: with one space after each comma the text has more than 400 characters.
LONG_TERM = "{" + ", ".join("1" * 199) + "}"


def is_canonical(text):
    try:
        return format_term(parse_term(text)) == text
    except BagError:
        return False


def uses_itself(trees, name):
    """Whether a name is reached from itself, by trying all ways."""
    reached = names_in(trees[name])
    for used in reached:
        reached.extend([other for other in names_in(trees.get(used, ("list", ()))) if other not in reached])
    return name in reached


def faulty_line(text):
    """The line with which reading a snapshot of short terms must fail, None if it must not."""
    *lines, rest = text.split("\n")
    trees = {}
    for at, line in enumerate(lines):
        found = re.fullmatch(r"([a-z]{1,8}) = (.*)", line)
        if not found or at > 11 or not is_canonical(found[2]) or any(name >= found[1] for name in trees):
            return at
        trees[found[1]] = parse_term(found[2])
    if rest:
        return len(lines)
    for at, name in enumerate(trees):
        if uses_itself(trees, name) or any(used not in trees for used in names_in(trees[name])):
            return at
    return None


class SnapshotCase(BagCase):
    def assert_invalid(self, line, *texts):
        for text in texts:
            self.assertEqual(self.assert_raises(InvalidSnapshot, read_snapshot, text).line, line, text)

    def assert_read(self, *texts):
        """Each text is the snapshot of the shelf that is read from it."""
        for text in texts:
            shelf = read_snapshot(text)
            self.assertEqual(write_snapshot(shelf), text)
            self.assertEqual(shelf.names(), [line.split(" ")[0] for line in text.split("\n")[:-1]])


class Writing(SnapshotCase):
    def test_lines(self):
        for kind in (Shelf, LoggedShelf):
            shelf = kind()
            self.assertEqual(write_snapshot(shelf), "")
            shelf.apply_all([("define", "b", "{1,2/4}"), ("define", "a", "(b)^2"), ("define", "abcdefgh", "b|(a|b)")])
            self.assertEqual(write_snapshot(shelf=shelf), "a = b ^ 2\nabcdefgh = b | (a | b)\nb = {1, 1/2}\n")

    def test_the_shelf_stays(self):
        shelf = Shelf()
        shelf.apply(("define", "a", "{1}"))
        shelf.value("a")
        write_snapshot(shelf)
        self.assertEqual((shelf.history(), shelf.kept(), shelf.computed), ((1, 0), ["a"], 1))


class Reading(SnapshotCase):
    def test_snapshots(self):
        self.assert_read("", PLAIN, "a = {}\n", "z = roots([-2, 0, 1])\n", "a = b\nb = {}\n", "roots = roots([1])\n")
        self.assert_read("".join(f"{name} = {{}}\n" for name in "abcdefghijkl"))
        self.assertEqual(read_snapshot(text="a = {1}\n").term("a"), ("list", ((1, 1),)))

    def test_a_new_shelf(self):
        shelf = read_snapshot(PLAIN)
        self.assertIs(type(shelf), Shelf)
        self.assertEqual((shelf.history(), shelf.kept(), shelf.computed, shelf.room), ((0, 0), [], 0, 12))
        self.assertEqual(read_snapshot(""), Shelf())

    def test_it_is_equal_and_goes_on_alike(self):
        shelf = Shelf()
        shelf.apply_all([("define", "c", "{2, 3}"), ("define", "a", "c * c"), ("define", "b", "a | distinct(a)")])
        other = read_snapshot(write_snapshot(shelf))
        self.assertEqual(other, shelf)
        for one in (shelf, other):
            one.value("b")
            one.apply(("rename", "c", "x"))
            one.apply(("define", "y", "x + x"))
            one.undo()
        self.assertEqual(other, shelf)
        self.assertEqual((other.kept(), other.value("b"), other.computed),
                         (shelf.kept(), shelf.value("b"), shelf.computed))
        self.assertEqual(write_snapshot(other), write_snapshot(shelf))
        for name in "abc":
            with self.assertRaises((BagError, Missing)):
                read_snapshot(write_snapshot(shelf)).apply(("define", "x", name))

    def test_it_has_twelve_names_at_most(self):
        twelve = "".join(f"{name} = {{}}\n" for name in "abcdefghijkl")
        self.assert_raises(LimitReached, read_snapshot(twelve).apply, ("define", "m", "{}"))
        self.assert_invalid(12, twelve + "m = {}\n", twelve + "m = {}\nn = {}\n", twelve + "m = {}", twelve + "\n",
                            twelve + "a = {}\n", twelve + "#\n#\n")

    def test_samples(self):
        samples = Trees(901, names=("a", "b"))
        for _ in range(100):
            term = format_term(samples.tree(samples.random.randrange(1, 15)))
            if len(term.replace(" ", "")) <= 400:
                self.assert_read(f"a = {{1}}\nb = a\nc = {term}\n")


class InvalidLines(SnapshotCase):
    def test_the_form_of_a_line(self):
        for line in ("", " ", "a", "a =", "a = ", "a={1}", "a ={1}", "a= {1}", " a = {1}", "a  = {1}", "a =  {1}",
                     "a = {1} ",
                     "A = {1}", "a1 = {1}", "abcdefghi = {1}", " = {1}", "= {1}", "{1}", "a = {1}\t", "a = #", "a = {1",
                     "a == {1}", "a = = {1}", "a = {1} = {1}", "a b = {1}", "a = {01}", "a = {1,2}", "a = {1 , 2}",
                     "a = { }",
                     "a = {2/4}", "a = {1/1}", "a = {-0}", "a = ({1})", "a = {1}|{2}", "a = {1} |{2}", "a = {1}^2",
                     "a = - {1}",
                     "a = roots([1, 0])", "a = roots([])", "a = roots( [1])", "a = map([0], {1})",
                     "a = ({1} | {2}) | {3}",
                     "a = {1} - ({2} * {3})", "a = -(-{1})", "a = -({1} ^ 2)", "a = foo({1})", "a = 1",
                     "a = sums({1},1)"):
            self.assert_invalid(0, line + "\n", line + "\nb = {1}\n", line + "\n#\n")
            self.assert_invalid(1, "a = {}\n" + line.replace("a", "b", 1) + "\n")

    def test_names_that_are_not_greater(self):
        self.assert_invalid(1, "a = {}\na = {}\n", "b = {}\na = {}\n", "aa = {}\na = {}\n", "b = {}\nab = {}\n",
                            "a = {}\na = {1}\n")
        self.assert_invalid(2, "a = {}\nc = {}\nb = {}\n", "a = {}\nb = {}\nb = {}\n", "a = {}\nb = {}\na = {}\n")
        self.assert_read("a = {}\naa = {}\nab = {}\nb = {}\n")

    def test_missing_line_feeds(self):
        self.assert_invalid(0, "a = {1}", "#", "a", " ")
        self.assert_invalid(2, PLAIN[:-1], "a = {}\nb = {}\nc", "a = {}\nb = {}\n#")
        self.assert_invalid(1, "a = {}\nb = c", "a = {1}\n ")
        self.assert_invalid(3, PLAIN + "\n", PLAIN + " ", PLAIN + "\n\n")
        # The fault of an earlier line counts.
        self.assert_invalid(0, "#\nb = {}", "b\n\n\nx")

    def test_changed_lines(self):
        lines = PLAIN.split("\n")[:-1]
        for at in range(3):
            doubled = lines[:at + 1] + lines[at:]
            self.assert_invalid(at + 1, "\n".join(doubled) + "\n")
            put_in = lines[:at] + [""] + lines[at:]
            self.assert_invalid(at, "\n".join(put_in) + "\n")
        self.assert_invalid(0, "\n".join(lines[1:]) + "\n")
        self.assert_invalid(1, "\n".join([lines[0], lines[2]]) + "\n")
        self.assert_read("\n".join(lines[:2]) + "\n")
        self.assert_invalid(1, "\n".join([lines[1], lines[0], lines[2]]) + "\n",
                            "\n".join([lines[2], lines[0], lines[1]]) + "\n")
        self.assert_invalid(2, "\n".join([lines[0], lines[2], lines[1]]) + "\n")

    def test_names_that_the_text_lacks(self):
        self.assert_invalid(0, "a = b\n", "a = b\nc = {}\n", "a = z\nb = z\n", "a = {1} | z\n")
        self.assert_invalid(1, "a = {}\nb = c\n", "a = {}\nb = a | z\nc = z\n", "a = {}\nb = z\n")
        self.assert_invalid(2, "a = {}\nb = {}\nc = a | b | d\n")

    def test_names_that_a_used_name_lacks(self):
        # Only the tree of the later line itself contains the name that is lacking.
        self.assert_invalid(1, "a = b\nb = z\n", "a = b\nb = z\nc = a\n")
        self.assert_invalid(2, "a = c\nb = {}\nc = z | b\n", "a = b\nb = c\nc = z\n")

    def test_names_that_use_themselves(self):
        self.assert_invalid(0, "a = a\n", "a = b\nb = a\n", "a = {1} | a\n", "a = b\nb = c\nc = a\n")
        self.assert_invalid(1, "a = b\nb = b\n", "a = {}\nb = b\n", "a = {}\nb = c\nc = b\n",
                            "a = b\nb = c | d\nc = b\nd = {}\n")
        self.assert_invalid(2, "a = {}\nb = a\nc = c\n", "a = c\nb = c\nc = d\nd = c\n")
        self.assert_invalid(0, "a = b | z\nb = b\n", "a = b\nb = a | z\n")
        self.assert_read("a = b\nb = c\nc = {}\n")

    def test_the_form_of_all_lines_comes_first(self):
        self.assert_invalid(1, "a = a\nb={}\n", "a = z\na = {}\n", "a = a\nb = {}")
        self.assert_invalid(2, "a = z\nb = b\n#\n", "a = z\nb = b\nc = {}")

    def test_the_first_of_both_faults(self):
        self.assert_invalid(0, "a = z\nb = b\n", "a = a\nb = z\n")
        self.assert_invalid(1, "a = {}\nb = b\nc = z\n", "a = {}\nb = z\nc = c\n")

    def test_long_terms(self):
        self.assertGreater(len(LONG_TERM), 400)
        self.assert_read(f"a = {LONG_TERM}\n")
        for many, fits in ((399, True), (400, True), (401, False), (500, False)):
            # Numbers of one and of two digits, with as many characters as wanted besides the spaces.
            tens = many % 2 + 1
            ones = (many - 1 - 3 * tens) // 2
            numbers = ["1"] * ones + ["10"] * tens
            term = "{" + ", ".join(numbers) + "}"
            while len(term.replace(" ", "")) < many:
                numbers[0] += "1"
                term = "{" + ", ".join(numbers) + "}"
            self.assertEqual(len(term.replace(" ", "")), many)
            if fits:
                self.assert_read(f"a = {term}\n")
            else:
                self.assert_invalid(0, f"a = {term}\n")

    def test_written_terms_that_are_too_long_to_be_read(self):
        shelf = Shelf()
        numbers = ",".join("1" * 180)
        shelf.apply_all([("define", "a", "{}"), ("define", "b", "|".join(["a"] * 10) + "|{" + numbers + "}")])
        self.assertEqual(read_snapshot(write_snapshot(shelf)), shelf)
        shelf.apply(("rename", "a", "aaaaaaaa"))
        text = write_snapshot(shelf)
        self.assertTrue(text.startswith("aaaaaaaa = {}\nb = aaaaaaaa | aaaaaaaa"))
        self.assert_invalid(1, text)

    def test_limits_of_terms(self):
        deep = "{1} | (" * 20 + "{1} | {2}" + ")" * 20
        self.assertEqual(format_term(parse_term(deep)), deep)
        self.assert_read(f"a = {deep}\n")
        self.assert_invalid(0, "a = " + "{1} | (" * 21 + "{1} | {2}" + ")" * 21 + "\n")
        self.assert_read("a = {}\nb = " + "-" * 59 + "a\n", "a = {}\nb = " + " | ".join(["a"] * 30) + "\n")
        self.assert_invalid(1, "a = {}\nb = " + "-" * 60 + "a\n", "a = {}\nb = " + " | ".join(["a"] * 31) + "\n")

    def test_changed_texts(self):
        random = Random(902)
        plain = "a = {1, 1/2}\nb = a | a\nbc = -b ^ 2 - c\nc = {}\nd = roots([1]) * bc\n"
        seen = set()
        for _ in range(4000):
            text = plain
            for _ in range(random.choice([1, 1, 1, 2, 3])):
                lines = text.split("\n")
                at = random.randrange(len(lines))
                shape = random.randrange(6)
                if shape == 0:
                    lines.insert(at, random.choice(lines))
                elif shape == 1:
                    lines.pop(at)
                elif shape == 2:
                    lines.insert(at, lines.pop(random.randrange(len(lines))))
                elif lines[at]:
                    place = random.randrange(len(lines[at]))
                    sign = random.choice("abcdz {}|^1=-(),\n")
                    lines[at] = lines[at][:place] + sign + lines[at][place + random.randrange(2):]
                text = "\n".join(lines)
            wanted = faulty_line(text)
            if wanted is None:
                self.assert_read(text)
            else:
                self.assert_invalid(wanted, text)
            seen.add(wanted)
        self.assertLessEqual({None, 0, 1, 2, 3, 4, 5}, seen)


if __name__ == "__main__":
    unittest.main()
