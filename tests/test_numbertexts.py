import unittest
from itertools import product

from levelcord.errors import NoText
from levelcord.numbers import is_number
from levelcord.numbertexts import read_number, show_number
from tests.helper import drawn, great_number, no_numbers, num

WRITTEN = (
    ("0", (0, 1)), ("5", (5, 1)), ("-5", (-5, 1)), ("10", (10, 1)), ("1/2", (1, 2)), ("-1/2", (-1, 2)),
    ("7/10", (7, 10)), ("1000000000", (10 ** 9, 1)), ("-999999999/1000000", (-999999999, 10 ** 6)),
)
OTHERWISE = (
    "5/1", "-5/1", "0/1", "0/2", "2/4", "-2/4", "6/3", "-0", "-0/1", "+1", "+0", "+1/2", "01", "-01", "00", "01/2",
    "1/02", "1/00", "1/0", "0/0", "-1/0", "1/-2", "-1/-2", "1/+2", " 1", "1 ", " ", "1 /2", "1/ 2", "- 1", "\t1",
    "1\t", "1\n", "\n1", "1/2\n", "\n", "1\r", "1/2 ", "", "-", "--1", "1-", "/", "//", "1/", "/2", "-/2", "1//2",
    "1/2/3", "1/2/", "/1/2", "1.5", "1e3", "1_000", "1,5", "0x1", "a", "None", "1/a", "a/2", "1 2", "1..2",
    "\u0661", "1/\u0662", "\u00b2",
)


class TestNumberTexts(unittest.TestCase):
    def test_written_ones_are_shown_and_read(self):
        for text, one in WRITTEN:
            with self.subTest(text):
                self.assertEqual(show_number(one), text)
                self.assertEqual(read_number(text), one)

    def test_each_number_read_from_its_text_is_the_number_again(self):
        source = drawn(6)
        small = [one for one in product(range(-9, 10), range(1, 10)) if is_number(one)]
        for one in small + [great_number(source) for k in range(500)] + [num(10 ** 900), (-1, 3 ** 900)]:
            self.assertEqual(read_number(show_number(one)), one)

    def test_what_is_read_is_a_number_of_whole_numbers(self):
        self.assertTrue(is_number(read_number("1")))
        self.assertTrue(is_number(read_number("0")))

    def refused(self, thing):
        with self.subTest(repr(thing)), self.assertRaises(NoText) as caught:
            read_number(thing)
        self.assertEqual(caught.exception.__class__, NoText)
        self.assertIsNone(caught.exception.part)

    def test_what_is_written_otherwise_is_refused(self):
        for text in OTHERWISE:
            self.refused(text)

    def test_all_short_texts(self):
        good = {show_number(one) for one in product(range(-99, 100), range(1, 100)) if is_number(one)}
        for many in range(5):
            for signs in product("012-/ ", repeat=many):
                text = "".join(signs)
                if text in good or (text.removeprefix("-").isdigit() and str(int(text)) == text):
                    self.assertEqual(show_number(read_number(text)), text)
                else:
                    self.refused(text)

    def test_what_is_no_text_is_refused(self):
        for thing in no_numbers() + [(1, 1), (1, 2)]:
            if not isinstance(thing, str):
                self.refused(thing)
