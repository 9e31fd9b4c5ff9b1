"""Promise 12: lands written as texts, and read again."""

import unittest
from itertools import product

from hillsight.errors import HillError, NoLand
from hillsight.notes import read, shown
from tests.plain import TOP, long_lands, small_lands
from tests.refusing import RefusingTest

WRITTEN = (
    ([0], "0"),
    ([7], "7"),
    ([-7], "-7"),
    ([3, 1, 2, 5], "3 1 2 5"),
    ([0, 0, 0], "0 0 0"),
    ([-1, 0, 10, -20, 300], "-1 0 10 -20 300"),
    ([TOP], "1000000000000000000"),
    ([-TOP], "-1000000000000000000"),
    ([TOP, -TOP, TOP - 1, 1 - TOP], f"{TOP} -{TOP} 999999999999999999 -999999999999999999"),
    ([0] * 200, "0" + " 0" * 199),
    ([-TOP] * 200, " ".join(["-1000000000000000000"] * 200)),
)
# Each is wrong as a whole text and as one word among others.
WRONG_WORDS = (
    "-", "--1", "---", "1-", "1-2", "- 1", "-0", "-00", "00", "01", "-01", "007", "0000000000000000001",
    "00000000000000000000000000", "+0", "+1", "+-1", "-+1", "~1", "1.", "1.0", ".5", "1e3", "1E3", "1_0", "1,0",
    "1,", "1;", "0x1", "0b1", "0o1", "1L", "a", "one", "None", "True", "nan", "inf", "[1]", "(1)", "'1'", "\"1\"",
    "1/2", "!", "\0", "1\0", "\0001",
    "1000000000000000001", "-1000000000000000001", "9999999999999999999", "10000000000000000000",
    "-10000000000000000000", "99999999999999999999999",
    # Minus signs and figures of other scripts, some of which Python would read as numbers.
    "\u22121", "\u20131", "\u0661", "\u0967\u0968", "-\u0663", "\uff11", "1\u0662", "\u00b2", "1\u00b2", "\u2460",
    "\u00bd", "\u2167", "\u4e00", "\U0001d7d9", "\ud800", "\ufeff1", "1\u200b",
)
BLANKS = ("\t", "\n", "\r", "\r\n", "\v", "\f", "\u00a0", "\u2003", "\u3000", "\u2028", "\x1c", "\x85", ",", ", ", ";")
NO_TEXTS = (
    None, True, False, 0, 1, 1.5, b"1", b"", bytearray(b"1"), [], [1], ["1"], ["1", "2"], (), ("1",), {}, str,
)


class ShownTest(unittest.TestCase):
    def test_written_lands(self):
        for land, line in WRITTEN:
            with self.subTest(line=line[:50]):
                self.assertEqual(shown(land), line)
                self.assertIs(type(shown(land)), str)

    def test_what_is_written_is_read_as_the_same_land(self):
        lands = list(small_lands()) + list(long_lands().values()) + [land for land, _ in WRITTEN]
        for number, land in enumerate(lands):
            with self.subTest(number=number):
                told = read(shown(land))
                self.assertEqual(told, land)
                self.assertIsNot(told, land)

    def test_what_is_shown_stays_as_it_was(self):
        land = [-1, 0, TOP]
        shown(land)
        self.assertEqual(land, [-1, 0, TOP])


class ReadTest(RefusingTest):
    def test_lands_read(self):
        for land, line in WRITTEN:
            with self.subTest(line=line[:50]):
                told = read(line)
                self.assertEqual(told, land)
                self.assertIs(type(told), list)
                self.assertEqual({type(height) for height in told}, {int})
                self.assertEqual(shown(told), line)

    def test_all_figures(self):
        self.assertEqual(read("1234567890 -987654321 10 20 30"), [1234567890, -987654321, 10, 20, 30])

    def test_two_calls_tell_two_lists(self):
        first, second = read("1 2"), read("1 2")
        self.assertIsNot(first, second)
        first.append(3)
        self.assertEqual([second, read("1 2")], [[1, 2], [1, 2]])

    def test_a_wrong_word(self):
        for word in WRONG_WORDS:
            for line in (word, word + " 1", "1 " + word, "1 " + word + " 2", "0 " * 199 + word):
                with self.subTest(word=ascii(word), line=ascii(line)[:30]):
                    self.check_refused(NoLand, read, line)

    def test_an_empty_text_and_blanks_alone(self):
        for many in range(5):
            with self.subTest(many=many):
                self.check_refused(NoLand, read, " " * many)

    def test_two_blanks_and_blanks_at_the_ends(self):
        for line in ("1  2", "1   2", "1 2  3", " 1", "1 ", " 1 ", "  1", "1  ", " 1 2", "1 2 ", "- 1", "-1  -2"):
            with self.subTest(line=line):
                self.check_refused(NoLand, read, line)

    def test_other_blanks(self):
        for blank in BLANKS:
            for line in (blank, "1" + blank, blank + "1", "1" + blank + "2", "1 " + blank + "2", "1 2" + blank):
                with self.subTest(line=ascii(line)):
                    self.check_refused(NoLand, read, line)

    def test_too_many_heights(self):
        for many in (201, 202, 1000):
            with self.subTest(many=many):
                self.check_refused(NoLand, read, " ".join(["0"] * many))
                self.check_refused(NoLand, read, " ".join(["-12"] * many))

    def test_very_long_figures(self):
        # Python refuses to read more than 4300 figures, by an error that is no NoLand.
        for many in (20, 640, 4300, 4301, 5000, 100000):
            for word in ("1" * many, "-" + "9" * many, "0" * many, "-" + "0" * many, "0" * many + "1"):
                with self.subTest(many=many, first=word[:2]):
                    self.check_refused(NoLand, read, word)
                    self.check_refused(NoLand, read, "1 " + word)

    def test_what_is_no_text(self):
        for number, thing in enumerate(NO_TEXTS):
            with self.subTest(number=number):
                self.check_refused(NoLand, read, thing)

    def test_it_is_a_hill_error_and_a_value_error(self):
        for error in (HillError, ValueError):
            for line in ("", "x", "+1", "1" * 5000, None):
                with self.assertRaises(error):
                    read(line)

    def test_every_short_text_of_some_signs(self):
        words = {str(height) for height in range(-9999, 100000)}
        for many in range(6):
            for signs in product("-01 2+\n", repeat=many):
                line = "".join(signs)
                if all(word in words for word in line.split(" ")):
                    self.assertEqual(shown(read(line)), line)
                else:
                    self.check_refused(NoLand, read, line)


if __name__ == "__main__":
    unittest.main()
