import re
import unittest
from fractions import Fraction
from math import gcd

from rootbags.errors import BagError, InvalidNumber
from rootbags.rationals import MAX_FIGURES, lowest, number_text, parse_number
from support import Samples, fraction, pair

ALPHABET = "0123456789-/+ .,_\nae"


def expected_number(text):
    """The rational of a text, or None if the text is not to be accepted."""
    match = re.fullmatch(r"(-?)([0-9]{1,100})(?:/([0-9]{1,100}))?", text)
    if match is None or text.endswith("\n"):
        return None
    sign, above, below = match.groups()
    for part in (above, below or "1"):
        if len(part) > 1 and part[0] == "0":
            return None
    if sign and above == "0":
        return None
    if below is not None and (int(below) < 2 or gcd(int(above), int(below)) != 1):
        return None
    return (int(sign + above), int(below or "1"))


class Lowest(unittest.TestCase):
    def check(self, numerator, denominator):
        found = lowest(numerator, denominator)
        self.assertIs(type(found), tuple)
        self.assertEqual(found, pair(Fraction(numerator, denominator)), (numerator, denominator))

    def test_example(self):
        self.assertEqual(lowest(6, -4), (-3, 2))

    def test_all_small_pairs(self):
        for numerator in range(-45, 46):
            for denominator in range(-45, 46):
                if denominator != 0:
                    self.check(numerator, denominator)

    def test_pairs_up_to_1000(self):
        samples = Samples(1)
        for _ in range(20000):
            self.check(samples.number(), samples.nonzero())
        for numerator in (-1000, -999, -1, 0, 1, 999, 1000):
            for denominator in (-1000, -999, -1, 1, 999, 1000):
                self.check(numerator, denominator)

    def test_great_numbers(self):
        samples = Samples(2)
        for digits in (20, 60, 61, 100, 120, 500, 3000):
            for _ in range(20):
                numerator, denominator = samples.number(digits), samples.nonzero(digits)
                factor = samples.nonzero(samples.random.randrange(digits))
                self.check(numerator, denominator)
                self.check(numerator * factor, denominator * factor)
                self.check(numerator * factor, denominator)
                self.check(numerator, numerator * factor or 1)
                self.check(0, denominator)

    def test_zero(self):
        for denominator in (1, -1, 7, -1000, 10 ** 119, -10 ** 119):
            self.assertEqual(lowest(0, denominator), (0, 1))

    def test_denominator_zero(self):
        for numerator in (0, 1, -1, 1000, -10 ** 60):
            with self.assertRaises(InvalidNumber) as caught:
                lowest(numerator, 0)
            self.assertEqual(caught.exception.code, "InvalidNumber")
            self.assertIsInstance(caught.exception, BagError)

    def test_names_of_the_arguments(self):
        self.assertEqual(lowest(denominator=-4, numerator=6), (-3, 2))
        self.assertEqual(lowest(6, denominator=-4), (-3, 2))


class NumberText(unittest.TestCase):
    def test_example(self):
        self.assertEqual(number_text((6, -4)), "-3/2")

    def test_the_texts_of_the_document(self):
        self.assertEqual([number_text(3), number_text((-2, 3)), number_text(0)], ["3", "-2/3", "0"])

    def test_integers(self):
        for number in [*range(-1000, 1001), 10 ** 119, -10 ** 119, 10 ** 120 - 1]:
            self.assertEqual(number_text(number), str(number))
            self.assertEqual(number_text((number, 1)), str(number))
            self.assertEqual(number_text((number, -1)), str(-number))

    def test_pairs(self):
        samples = Samples(3)
        for digits in (1, 2, 3, 9, 60, 64, 65, 120):
            for _ in range(500):
                value = samples.rational(digits)
                self.assertEqual(number_text(value), str(fraction(value)), value)

    def test_parse_number_reads_the_text(self):
        samples = Samples(4)
        for digits in (1, 3, 20, 95):
            for _ in range(500):
                value = samples.rational(digits)
                self.assertEqual(parse_number(number_text(value)), pair(fraction(value)))

    def test_denominator_zero(self):
        for value in ((1, 0), (0, 0), (-10 ** 60, 0)):
            with self.assertRaises(InvalidNumber):
                number_text(value)

    def test_edges_of_the_parts_in_which_long_numbers_are_written(self):
        for digits in (63, 64, 65, 127, 128, 129, 192):
            for number in (10 ** digits - 1, 10 ** digits, 10 ** digits + 1, 10 ** digits + 10 ** (digits // 2)):
                self.assertEqual(number_text(number), str(number))
                self.assertEqual(number_text(-number), str(-number))

    def test_results_of_any_size_can_be_passed(self):
        # str() refuses integers with more than 4300 digits.
        self.assertEqual(number_text(10 ** 6000), "1" + "0" * 6000)
        self.assertEqual(number_text(1 - 10 ** 6000), "-" + "9" * 6000)
        self.assertEqual(number_text((10 ** 9000, 10 ** 4000 * 7)), "1" + "0" * 5000 + "/7")
        self.assertEqual(number_text((14, -7 * 10 ** 5000)), "-1/" + "5" + "0" * 4999)

    def test_name_of_the_argument(self):
        self.assertEqual(number_text(value=(6, -4)), "-3/2")


class ParseNumber(unittest.TestCase):
    def check(self, text):
        expected = expected_number(text)
        if expected is None:
            with self.assertRaises(InvalidNumber, msg=repr(text)):
                parse_number(text)
        else:
            self.assertEqual(parse_number(text), expected, repr(text))

    def refused(self, *texts):
        for text in texts:
            with self.assertRaises(InvalidNumber, msg=repr(text)):
                parse_number(text)

    def test_example(self):
        self.assertEqual(parse_number("-3/2"), (-3, 2))

    def test_accepted(self):
        expected = {"0": (0, 1), "7": (7, 1), "-7": (-7, 1), "10": (10, 1), "1/2": (1, 2), "-10/21": (-10, 21)}
        for text, value in expected.items():
            self.assertEqual(parse_number(text), value)
            self.assertIs(type(parse_number(text)), tuple)

    def test_odd_texts(self):
        self.refused("", "-", "/", "-/", "-0", "+1", "01", "-01", "00", "--1", "-+1", "1-")
        self.refused("1/1", "-5/1", "2/4", "0/1", "0/5", "1/0", "0/0", "1/-2", "-1/-2", "1/+2", "1/02", "01/2")
        self.refused("1/", "/2", "1//2", "1/2/3", "1/2/", "1.5", "1e3", "1_000", "1,5", "0x1", "a", "one", "1a")
        self.refused(" 1", "1 ", "1 /2", "1/ 2", "- 1", "\n", "1\n", "\n1", "1/2\n", "1\n/2", " ", "1 2")

    def test_digits_of_other_scripts(self):
        self.refused("\u00b2", "\u0663", "1/\u0663", "\uff11")

    def test_100_digits_are_accepted_and_101_are_not(self):
        self.assertEqual(MAX_FIGURES, 100)
        most, more = 10 ** 100 - 1, 10 ** 100
        self.assertEqual(parse_number(str(most)), (most, 1))
        self.assertEqual(parse_number("-" + str(most)), (-most, 1))
        self.assertEqual(parse_number(f"1/{most}"), (1, most))
        self.assertEqual(parse_number(f"-{most - 1}/{most}"), (1 - most, most))
        self.refused(str(more), "-" + str(more), f"1/{more}", f"{more}/3", f"{more}/{more + 1}")
        self.refused("0" * 101, "1" * 2000, "1" * 5000, "1/" + "3" * 5000, "0" + str(most))

    def test_texts_of_up_to_four_characters(self):
        texts = [""]
        for _ in range(4):
            texts = [text + figure for text in texts for figure in "012-/"] + [""]
            for text in texts:
                self.check(text)

    def test_one_character_put_in_removed_or_replaced(self):
        samples = Samples(5)
        for digits in (1, 2, 5, 40, 99):
            for _ in range(40):
                text = number_text(samples.rational(digits))
                self.check(text)
                for _ in range(30):
                    at = samples.random.randrange(len(text) + 1)
                    figure = samples.random.choice(ALPHABET)
                    self.check(text[:at] + figure + text[at:])
                    self.check(text[:at] + text[at + 1:])
                    self.check(text[:at] + figure + text[at + 1:])

    def test_name_of_the_argument(self):
        self.assertEqual(parse_number(text="5/3"), (5, 3))


if __name__ == "__main__":
    unittest.main()
