import re
import unittest
from random import Random

from rootbags.errors import BagError, InvalidText, NestingTooDeep, TermTooLarge
from rootbags.terms import MAX_NODES, MAX_OPEN, MAX_TEXT, format_term, names_in, node_count, parse_term
from support import BagCase
from term_support import WORDS, Machine, Trees, full_text, spaced, subterms, tokens

A, B, C, D = [("name", name) for name in "abcd"]
NONE = ("list", ())


def fault(text):
    """The code and the value of the error of a text, None if it has none."""
    try:
        parse_term(text)
    except BagError as error:
        return (error.code, error.position if error.code == "InvalidText" else error.limit)
    return None


class TermCase(BagCase):
    def assert_tree(self, tree, *texts):
        for text in texts:
            self.assertEqual(parse_term(text), tree, text)

    def assert_invalid(self, position, *texts):
        for text in texts:
            self.assertEqual(fault(text), ("InvalidText", position), text)


class Parsing(TermCase):
    def test_operators(self):
        self.assert_tree(("join", A, B), "a|b", "a | b", " a  |  b ", "(a)|(b)", "((a | b))")
        self.assert_tree(("sum", A, B), "a+b", "a + b")
        self.assert_tree(("difference", A, B), "a-b", "a - b", "a -b")
        self.assert_tree(("product", A, B), "a*b")
        self.assert_tree(("quotient", A, B), "a/b")
        self.assert_tree(("negative", A), "-a", " - a", "-(a)", "(-a)")
        self.assert_tree(("power", A, 2), "a^2", "a ^ 2", "(a)^2")
        self.assert_tree(("power", A, 0), "a^0")
        self.assert_tree(("power", A, 10 ** 99), "a^" + str(10 ** 99))

    def test_words(self):
        self.assert_tree(("roots", ((-2, 1), (0, 1), (1, 1))), "roots([-2, 0, 1])", "roots ( [ - 2 , 0 , 1 ] )")
        self.assert_tree(("unity", 6), "unity(6)", "unity ( 6 )")
        self.assert_tree(("unity", 0), "unity(0)")
        self.assert_tree(("unity", 10 ** 99), f"unity({10 ** 99})")
        self.assert_tree(("map", ((1, 1), (0, 1), (1, 1)), A), "map([1, 0, 1], a)")
        self.assert_tree(("map", (), A), "map([], a)", "map([0], a)", "map([0, -0, 0/5], a)")
        self.assert_tree(("sums", A, 2), "sums(a, 2)")
        self.assert_tree(("products", A, 0), "products(a, 0)")
        self.assert_tree(("distinct", A), "distinct(a)")
        self.assert_tree(("common", A, B), "common(a, b)")
        self.assert_tree(("without", A, B), "without(a, b)")
        self.assert_tree(("distinct", ("join", A, B)), "distinct(a | b)")
        self.assert_tree(("sums", ("join", A, B), 1), "sums(a|b,1)")
        self.assert_tree(("common", ("join", A, B), ("negative", C)), "common(a|b,-c)")

    def test_strength(self):
        self.assert_tree(("join", ("sum", A, ("product", B, C)), D), "a + b * c | d")
        self.assert_tree(("join", A, ("sum", ("product", B, C), D)), "a | b * c + d")
        self.assert_tree(("negative", ("power", A, 2)), "-a ^ 2", "-(a ^ 2)")
        self.assert_tree(("power", ("negative", A), 2), "(-a) ^ 2")
        self.assert_tree(("product", ("negative", A), B), "-a * b")
        self.assert_tree(("product", A, ("negative", B)), "a * -b")
        self.assert_tree(("quotient", A, ("negative", ("power", B, 3))), "a / -b ^ 3")
        self.assert_tree(("difference", A, ("negative", B)), "a--b", "a - -b")
        self.assert_tree(("join", A, ("negative", B)), "a|-b")

    def test_association(self):
        for sign, word in (("|", "join"), ("+", "sum"), ("-", "difference"), ("*", "product"), ("/", "quotient")):
            self.assert_tree((word, (word, A, B), C), f"a {sign} b {sign} c")
            self.assert_tree((word, A, (word, B, C)), f"a {sign} (b {sign} c)")
        self.assert_tree(("sum", ("difference", A, B), C), "a - b + c")
        self.assert_tree(("difference", ("sum", A, B), C), "a + b - c")
        self.assert_tree(("product", ("quotient", A, B), C), "a / b * c")
        self.assert_tree(("power", ("power", A, 2), 3), "a ^ 2 ^ 3")

    def test_any_number_of_signs_in_front(self):
        for many in (1, 2, 3, 59):
            tree = A
            for _ in range(many):
                tree = ("negative", tree)
            self.assert_tree(tree, "-" * many + "a", "- " * many + " a")
        for many in (60, 100, 399):
            self.assertEqual(fault("-" * many + "a"), ("TermTooLarge", 60))
        self.assert_invalid(400, "-" * 400)
        self.assert_invalid(399, "-" * 399)

    def test_lists(self):
        self.assert_tree(NONE, "{}", "{ }", " {  } ")
        self.assert_tree(("list", ((1, 1), (-2, 3))), "{1, -2/3}", "{1,-2/3}", "{ 1 , - 2 / 3 }", "{ 1,- 4 /6 }")
        self.assert_tree(("list", ((0, 1), (0, 1))), "{0, -0}", "{-0/7, 0/1}")
        self.assert_tree(("list", ((1, 1),) * 100), "{" + ",".join("1" * 100) + "}")
        self.assert_tree(("difference", ("list", ((1, 1),)), ("list", ((2, 1),))), "{1}-{2}")
        self.assert_tree(("negative", ("list", ((-1, 1),))), "-{-1}")
        self.assert_tree(("list", ((10 ** 99, 1), (1, 10 ** 99))), f"{{{10 ** 99},1/{10 ** 99}}}")

    def test_polynomials_without_zeros_at_their_end(self):
        self.assert_tree(("roots", ((1, 2),)), "roots([1/2])", "roots([2/4, 0, 0/3])")
        self.assert_tree(("roots", ((0, 1), (1, 1))), "roots([0, 1, 0])")
        self.assert_tree(("map", ((0, 1), (-1, 1)), A), "map([0,-1,0,-0],a)")

    def test_names(self):
        for name in ("a", "zz", "abcdefgh", "products", *WORDS):
            self.assert_tree(("name", name), name, f" {name} ", f"({name})")
        self.assert_tree(("sum", ("name", "roots"), ("roots", ((1, 1),))), "roots+roots([1])")
        self.assert_tree(("map", (), ("name", "map")), "map([],map)")
        self.assert_tree(("distinct", ("name", "distinct")), "distinct(distinct)")

    def test_parentheses_leave_no_trace(self):
        self.assert_tree(A, "(a)", "((a))", "( ( a ) )")
        self.assert_tree(("sums", A, 2), "sums((a), 2)", "(sums(((a)), 2))")

    def test_samples(self):
        samples = Trees(401)
        for _ in range(400):
            tree = samples.tree(samples.random.randrange(1, 16))
            text = full_text(tree)
            if len(text) <= 400 and fault(text) != ("NestingTooDeep", 20):
                self.assert_tree(tree, text)
                wide = spaced(text, samples.random)
                if len(wide) <= 400:
                    self.assert_tree(tree, wide)

    def test_calls_by_name(self):
        self.assertEqual(parse_term(text="a"), A)


class Limits(TermCase):
    def test_constants(self):
        self.assertEqual((MAX_TEXT, MAX_OPEN, MAX_NODES), (400, 20, 60))

    def test_length(self):
        self.assert_tree(A, "a" + " " * 399, " " * 399 + "a", "a".center(400))
        self.assert_invalid(400, "a" + " " * 400, " " * 401, "#" * 401, "(" * 500, "a|" * 1000, "-" * 401)
        self.assert_invalid(400, " " * 400)
        self.assert_invalid(0, "#" * 400)

    def test_open_parentheses(self):
        self.assert_tree(A, "(" * 20 + "a" + ")" * 20)
        for text in ("(" * 21 + "a" + ")" * 21, "(" * 21, "(" * 400, "( " * 21 + "#", "(" * 20 + "distinct(a)",
                     "distinct(" * 21, "(" * 20 + "roots([", "(" * 20 + "unity (", "-(" * 21):
            self.assertEqual(fault(text), ("NestingTooDeep", 20), text)
        for word, inside in (("roots", "[1]"), ("unity", "1"), ("map", "[],a"), ("sums", "a,1"), ("products", "a,1"),
                             ("distinct", "a"), ("common", "a,b"), ("without", "a,b")):
            self.assertIsNone(fault("(" * 19 + f"{word}({inside})" + ")" * 19))
            self.assertEqual(fault("(" * 20 + f"{word}({inside})" + ")" * 20), ("NestingTooDeep", 20))
        self.assertIsNone(fault("(" * 19 + "(a)|(b)|distinct(c)" + ")" * 19))
        self.assertIsNone(fault("(a)|" * 29 + "(a)"))

    def test_parentheses_that_are_closed_do_not_count(self):
        for closed in ("(a)|", "((a))|", "distinct(a)|", "roots([1])|(a)|", "(a)|" * 10):
            self.assertEqual(fault(closed + "(" * 21), ("NestingTooDeep", 20))
            self.assertIsNone(fault(closed + "(" * 20 + "a" + ")" * 20))
            self.assertEqual(fault("(" * 10 + closed + "(" * 11), ("NestingTooDeep", 20))
            self.assertIsNone(fault("(" * 10 + closed + "(" * 10 + "a" + ")" * 20))

    def test_open_parentheses_from_left_to_right(self):
        self.assert_invalid(20, "(" * 20 + "#(", "(" * 20 + "a(", "(" * 20 + ")", "(" * 20 + "foo(a)")
        self.assert_invalid(22, "(" * 20 + "{}(")
        self.assert_invalid(3, "a +" + "+" + "(" * 21)
        self.assertEqual(fault("(" * 21 + "#"), ("NestingTooDeep", 20))

    def test_other_brackets_do_not_count(self):
        self.assertIsNone(fault("(" * 20 + "{1}" + ")" * 20))
        self.assertIsNone(fault("(" * 19 + "roots([1])" + ")" * 19))

    def test_nodes(self):
        self.assertEqual(node_count(parse_term("a|" * 29 + "a")), 59)
        self.assertEqual(node_count(parse_term("a|" * 29 + "-a")), 60)
        for text in ("a|" * 30 + "a", "a|" * 29 + "--a", "a" + "^1" * 60, "a|" * 199 + "a", "{}" + "^1" * 199):
            self.assertEqual(fault(text), ("TermTooLarge", 60))
        self.assertEqual(node_count(parse_term("a" + "^1" * 59)), 60)
        self.assertEqual(node_count(parse_term("{" + ",".join("1" * 150) + "}")), 1)
        self.assertEqual(fault("distinct(" * 20 + "-" * 40 + "a" + ")" * 20), ("TermTooLarge", 60))
        self.assertIsNone(fault("distinct(" * 20 + "-" * 39 + "a" + ")" * 20))

    def test_the_order_of_the_errors(self):
        self.assert_invalid(180, "a|" * 90)
        self.assertEqual(fault("a|" * 90 + "(" * 21), ("NestingTooDeep", 20))
        self.assertEqual(fault("a|" * 90 + "(" * 20 + "a" + ")" * 20), ("TermTooLarge", 60))
        self.assert_invalid(201, "a|" * 90 + "(" * 20 + "a")
        self.assert_invalid(400, "a|" * 90 + "(" * 300)

    def test_the_kinds_of_errors(self):
        self.assertEqual(self.assert_raises(InvalidText, parse_term, "a b").position, 2)
        self.assertEqual(self.assert_raises(NestingTooDeep, parse_term, "(" * 21).limit, 20)
        self.assertEqual(self.assert_raises(TermTooLarge, parse_term, "-" * 60 + "a").limit, 60)


class Faults(TermCase):
    def assert_faults(self, *marked):
        """Each text has its fault where the `@` stands, which does not belong to it."""
        for text in marked:
            before, _, behind = text.partition("@")
            self.assert_invalid(len(before), before + behind)

    def test_the_end_of_the_text(self):
        self.assert_faults("@", "   @", "a +@", "a + @", "a^@", "(a@", "(a @", "{@", "{1@", "{1,@", "{1/@", "{-@",
                           "--@")
        self.assert_faults("roots(@", "roots([@", "roots([0,0@", "roots([1]@", "unity(@", "unity(6@", "map([1@",
                           "map([]@")
        self.assert_faults("map([],@", "map([], a@", "sums(@", "sums(a@", "sums(a,@", "sums(a, 2@", "distinct(a@")
        self.assert_faults("common(a, @", "without(a, b @", "(a | (b)@", "a ^ 2 |   @")

    def test_tokens_that_cannot_begin_a_term(self):
        for token in ")]}[,|+*/^1":
            self.assert_faults(f"@{token}", f"-@{token}", f"a + @{token}", f"(@{token}", f" @{token} a",
                               f"distinct(@{token}")

    def test_tokens_that_cannot_stand_behind_a_term(self):
        for term in ("a", "{}", "(a)", "a ^ 2", "unity(6)", "-a", "a | b"):
            for token in ("]", "}", "[", ",", "{", "1", "b", ")", "roots([1])", "#"):
                self.assert_faults(f"{term} @{token}")
        for term in ("{}", "(a)", "a ^ 2", "unity(6)"):
            self.assert_faults(f"{term}@(a)")
        self.assert_faults("(a@,b)", "(a@]", "(a@}", "(a @b)")

    def test_powers(self):
        self.assert_faults("a^@a", "a^@-1", "a^@(2)", "a^@{2}", "a^@^2", "a ^ 1@}", "a^2@a", "a^@|")

    def test_rationals(self):
        for left, right in (("{", "}"), ("roots([", "])"), ("map([", "], a)")):
            for inside in ("@a", "@,1", "@+1", "@/2", "-@-1", "1@-2", "1 @2", "1@|2", "1,@", "1,@,2", "1/@-2", "1/@a",
                           "1/@0", "1/2@/3", "1/2@+1", "1@^2", "@(1)", "@{1}", "@[1]", "1@)", "-@a", "1/@/2", "1@#"):
                self.assert_faults(left + inside + right)
        self.assert_faults("{1@]", "roots([1@}")

    def test_what_stands_in_the_parentheses_of_words(self):
        self.assert_faults("roots(@a)", "roots(@)", "roots(@1)", "roots(@{1})", "roots(@([1]))", "roots([1]@,a)",
                           "roots([1]@|a)")
        self.assert_faults("unity(@a)", "unity(@)", "unity(@-1)", "unity(1@/2)", "unity(6@,6)", "unity(@{6})",
                           "unity(@(6))")
        self.assert_faults("map(@a, [1])", "map(@)", "map(@1, a)", "map([]@)", "map([1] @a)", "map([1],@)",
                           "map([1],@[2])")
        self.assert_faults("map([1], a@, b)", "map([1], @1)", "map(@roots([1]), a)")
        for word in ("sums", "products"):
            self.assert_faults(f"{word}(@)", f"{word}(@2, a)", f"{word}(@,2)", f"{word}(a@)", f"{word}(a,@)",
                               f"{word}(a,@b)")
            self.assert_faults(f"{word}(a,@-1)", f"{word}(a, 1@/2)", f"{word}(a, 2@, 3)", f"{word}(a, @{{2}})")
        self.assert_faults("distinct(@)", "distinct(a@, b)", "distinct(a@,)", "distinct(@[1])")
        for word in ("common", "without"):
            self.assert_faults(f"{word}(@)", f"{word}(a@)", f"{word}(a,@)", f"{word}(a, b@, c)", f"{word}(@, b)",
                               f"{word}(a, @2)")

    def test_words_with_and_without_a_parenthesis_behind_them(self):
        self.assert_faults("@a(b)", "@foo(a)", "@foo  (a)", "@root([1])", "@abcdefgh   (", "@summ(a, 2)", "@a(", "@a(#")
        self.assert_faults("a + @foo(a)", "a + @b (c)", "(@a(b))", "common(@a(b), c)", "-@a(b)")
        self.assert_faults("a @roots([1])", "a @sums", "a @foo(a)", "roots @[1]", "roots@[1]", "unity @6",
                           "unity@{6}", "unity@)")

    def test_names_of_more_than_eight_letters(self):
        self.assert_tree(("name", "abcdefgh"), "abcdefgh")
        self.assert_faults("@abcdefghi", "@" + "a" * 400, "@productss(a, 2)", "@abcdefghi(", "@abcdefghi + #")
        self.assert_faults("a | @abcdefghi", "a @abcdefghi", "distinct(@abcdefghi)")

    def test_numerals(self):
        for numeral in ("00", "01", "007", "0" * 100, "1" * 101, "0" * 101):
            self.assert_faults(f"{{@{numeral}}}", f"{{-@{numeral}}}", f"{{1/@{numeral}}}", f"{{1, @{numeral}}}",
                               f"a^@{numeral}")
            self.assert_faults(f"unity(@{numeral})", f"sums(a, @{numeral})", f"roots([@{numeral}])", f"@{numeral}",
                               f"a @{numeral}")
        self.assert_tree(("list", ((10 ** 100 - 1, 1),)), "{" + "9" * 100 + "}")
        self.assert_tree(("power", A, 10 ** 100 - 1), "a^" + "9" * 100)

    def test_roots_of_the_zero_polynomial(self):
        self.assert_faults("roots(@[])", "roots(@[0])", "roots(@[0, -0, 0/7])", "roots(@[]", "roots(@[0]#",
                           "roots(@[0])#")
        self.assert_faults("roots ( @[ ] )", "roots ( @[0,0] + ", "a | b | roots(@[0])")
        self.assert_faults("roots([0@", "roots([0@#", "roots([0@)", "roots([0,@])", "roots([0, 0/@0])")
        self.assertIsNone(fault("roots([0, 1])"))
        self.assertIsNone(fault("map([], {})"))

    def test_characters_that_no_token_has(self):
        for sign in "#!\"$&'.:;<=>?\\_`~AZ\n":
            self.assert_faults(f"@{sign}", f"@{sign}a", f"a@{sign}", f"{{@{sign}", f"-@{sign}", f"(@{sign}",
                               f"a+ @{sign}")
            self.assert_faults(f"{{1 @{sign}", f"a  @{sign}", f"roots@{sign}([1])", f"roots(@{sign}[1])",
                               f"a |@{sign}b")
        self.assert_invalid(1, "a@")

    def test_samples_of_changed_texts(self):
        samples = Trees(402)
        random = Random(403)
        pieces = [*"{}()[],|+-*/^", "1", "0", "01", "a", "ab", "abcdefghi", "foo", "#", " ", "1/2", *WORDS]
        seen = set()
        for _ in range(6000):
            text = full_text(samples.tree(samples.random.randrange(1, 9)))
            if random.randrange(2):
                text = spaced(text, random)
            for _ in range(random.choice([0, 1, 1, 1, 2])):
                at = random.randrange(len(text) + 1)
                text = text[:at] + random.choice([*pieces, ""]) + text[at + random.randrange(3):]
            wanted = Machine(text).fault()
            self.assertEqual(fault(text), wanted, text)
            seen.add(wanted and wanted[0])
        self.assertEqual(seen, {None, "InvalidText"})

    def test_samples_of_tokens(self):
        random = Random(404)
        pieces = ["a", "-", "(", ")", "{", "}", "1", "0", ",", "/", "|", "^", "roots", "[", "]", "sums", "{1}", "^2",
                  "+b"]
        for _ in range(6000):
            text = "".join(random.choice(pieces) for _ in range(random.randrange(9)))
            self.assertEqual(fault(text), Machine(text).fault(), text)

    def test_samples_near_the_limits(self):
        random = Random(405)
        seen = set()
        for _ in range(1500):
            deep = random.randrange(17, 24)
            opening = [random.choice(["(", "distinct(", "-(", "a|("]) for _ in range(deep)]
            text = "".join(opening) + random.choice(["a", "{}", "a" + "^1" * 20, "unity(1)", "#"])
            text += ")" * random.choice([deep, deep, deep - 1, deep + 1]) + random.choice(["", "", "^1" * 15, "|a" * 8])
            wanted = Machine(text).fault()
            self.assertEqual(fault(text), wanted, text)
            seen.add(wanted and wanted[0])
        self.assertEqual(seen, {None, "InvalidText", "NestingTooDeep", "TermTooLarge"})


class Formatting(TermCase):
    def test_canonical_texts(self):
        for text, canonical in (
                ("a|b+c*d", "a | b + c * d"), ("a|(b|c)", "a | (b | c)"), ("(a|b)|c", "a | b | c"),
                ("(a|b)+c", "(a | b) + c"), ("a-(b-c)", "a - (b - c)"), ("(a-b)-c", "a - b - c"),
                ("a-(b+c)", "a - (b + c)"), ("a*(b/c)", "a * (b / c)"), ("a/b*c", "a / b * c"),
                ("a*(b+c)", "a * (b + c)"),
                ("--a", "--a"), ("-(-a)", "--a"), ("-(a^2)", "-a ^ 2"), ("(-a)^2", "(-a) ^ 2"), ("-(a*b)", "-(a * b)"),
                ("(-a)*b", "-a * b"), ("a*(-b)", "a * -b"), ("a-(-b)", "a - -b"), ("(a^2)^3", "a ^ 2 ^ 3"),
                ("(a*b)^2", "(a * b) ^ 2"), ("({1})^2", "{1} ^ 2"), ("{1,-2/4,0/3}", "{1, -1/2, 0}"), ("{}", "{}"),
                ("roots([1,0,2/2,0])", "roots([1, 0, 1])"), ("unity( 6 )", "unity(6)"), ("map([0],a)", "map([], a)"),
                ("map([0,1/2],(a|b))", "map([0, 1/2], a | b)"), ("sums((a),2)", "sums(a, 2)"),
                ("products(-a,0)", "products(-a, 0)"), ("distinct((a))", "distinct(a)"),
                ("common((a|b),(c))", "common(a | b, c)"), ("without(a,b)", "without(a, b)"),
                ("distinct(a)^2", "distinct(a) ^ 2"), ("-roots([1])", "-roots([1])"), ("(((map)))", "map")):
            self.assertEqual(format_term(parse_term(text)), canonical)
            self.assertEqual(format_term(tree=parse_term(canonical)), canonical)

    def test_parsing_again_gives_the_tree(self):
        samples = Trees(406)
        for _ in range(500):
            tree = samples.tree(samples.random.randrange(1, 25))
            text = format_term(tree)
            if len(text) <= 400:
                self.assertEqual(parse_term(text), tree, text)
                self.assertEqual(format_term(parse_term(text)), text)

    def test_spaces(self):
        samples = Trees(407)
        for _ in range(300):
            text = format_term(samples.tree(samples.random.randrange(1, 20)))
            wanted = ""
            before = ""
            depth = []
            for token, _ in tokens(text):
                binary = token in "|+-*^/" and before not in ("", *"(,{[|+-*/") and not depth
                if token in "{[":
                    depth.append(token)
                if token in "}]":
                    depth.pop()
                if token == "^" or binary:
                    wanted += f" {token} "
                else:
                    wanted += token + (" " if token == "," else "")
                before = token
            self.assertEqual(text, wanted)

    def test_no_pair_of_parentheses_can_be_left_out(self):
        samples = Trees(408)
        checked = 0
        for _ in range(300):
            tree = samples.tree(samples.random.randrange(2, 16))
            text = format_term(tree)
            for found in re.finditer(r"(?<![a-z])\(", text):
                end, depth = found.end(), 1
                while depth:
                    depth += {"(": 1, ")": -1}.get(text[end], 0)
                    end += 1
                shorter = text[:found.start()] + text[found.end():end - 1] + text[end:]
                if fault(shorter) is None:
                    self.assertNotEqual(parse_term(shorter), tree, (text, shorter))
                checked += 1
        self.assertGreater(checked, 100)

    def test_the_canonical_text_may_be_longer_than_400_characters(self):
        text = "{" + ",".join("1" * 199) + "}"
        self.assertEqual(len(text), 399)
        self.assertEqual(format_term(parse_term(text)), text.replace(",", ", "))

    def test_long_numbers(self):
        text = "{" + "9" * 100 + "/" + "7" * 100 + "}"
        self.assertEqual(format_term(parse_term(text)), "{9/7}")
        text = f"unity({'9' * 100}) ^ {'8' * 100}"
        self.assertEqual(format_term(parse_term(text)), text)

    def test_deep_trees(self):
        for text in ("-" * 59 + "a", "a" + " ^ 1" * 59, "a | (" * 20 + "b | c" + ")" * 20):
            self.assertEqual(format_term(parse_term(text)), text)


class Names(TermCase):
    def test_ascending_each_once(self):
        self.assertEqual(names_in(parse_term("b + a * b")), ["a", "b"])
        self.assertEqual(names_in(parse_term("{1}")), [])
        self.assertEqual(names_in(parse_term("roots([1]) | unity(2)")), [])
        self.assertEqual(names_in(parse_term("zz | z | a | aa | ab | b")), ["a", "aa", "ab", "b", "z", "zz"])
        self.assertEqual(names_in(tree=parse_term("map([1], roots) - common(map, sums(x, 2))")), ["map", "roots", "x"])

    def test_samples(self):
        samples = Trees(409)
        for _ in range(200):
            tree = samples.tree(samples.random.randrange(1, 30))
            self.assertEqual(names_in(tree), sorted({part[1] for part in subterms(tree) if part[0] == "name"}))

    def test_the_list_is_new(self):
        tree = parse_term("a | b")
        names_in(tree).clear()
        self.assertEqual(names_in(tree), ["a", "b"])


class Nodes(TermCase):
    def test_lists_and_polynomials_are_no_nodes(self):
        for text, many in (("a", 1), ("{1, 2, 3}", 1), ("roots([1, 2])", 1), ("unity(3)", 1), ("-a", 2), ("a ^ 3", 2),
                           ("map([1, 2], a)", 2), ("sums(a, 2)", 2), ("products(a, 2)", 2), ("distinct(a)", 2),
                           ("common(a, b)", 3), ("without(a, a)", 3), ("a | b", 3), ("a + b", 3), ("a - b", 3),
                           ("a * b", 3), ("a / b", 3), ("((a))", 1), ("sums(a + {1}, 2)", 4)):
            self.assertEqual(node_count(tree=parse_term(text)), many, text)

    def test_samples(self):
        samples = Trees(410)
        for many in range(1, 61):
            self.assertEqual(node_count(samples.tree(many)), many)


if __name__ == "__main__":
    unittest.main()
