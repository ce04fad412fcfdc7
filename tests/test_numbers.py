import unittest
from fractions import Fraction
from itertools import product
from math import gcd

from levelcord.errors import NoNumber
from levelcord.numbers import added, is_less, is_number, multiplied, number, parted, taken
from tests.helper import drawn, frac, great_number, no_numbers, num

PLAIN = [num(value) for value in (0, 1, -1, 2, -2, 7, Fraction(1, 2), Fraction(-1, 2), Fraction(2, 3),
                                  Fraction(-7, 6), 10 ** 9, -10 ** 9, Fraction(1, 10 ** 6),
                                  Fraction(-1, 10 ** 6), Fraction(10 ** 9 - 1, 10 ** 6))]


def pairs():
    source = drawn(4)
    return list(product(PLAIN, PLAIN)) + [(great_number(source), great_number(source)) for k in range(500)]


class TestIsNumber(unittest.TestCase):
    def test_numbers_in_lowest_terms(self):
        for one in PLAIN + [(3, 2), (-3, 2), (0, 1), (5, 1), (10 ** 40, 1), (1, 10 ** 40)]:
            with self.subTest(one):
                self.assertIs(is_number(one), True)

    def test_what_is_none(self):
        for thing in no_numbers():
            with self.subTest(repr(thing)):
                self.assertIs(is_number(thing), False)

    def test_small_ones_against_the_greatest_divisor(self):
        for top, bottom in product(range(-12, 13), range(-3, 13)):
            with self.subTest(top=top, bottom=bottom):
                self.assertIs(is_number((top, bottom)), bottom >= 1 and gcd(top, bottom) == 1)

    def test_great_ones_are_not_tried_one_by_one(self):
        prime = 2 ** 521 - 1
        self.assertTrue(is_number((prime, 2 ** 520)))
        self.assertFalse(is_number((prime * 6, prime * 35)))


class TestReckoning(unittest.TestCase):
    def test_number_is_made_in_lowest_terms(self):
        for top, bottom in product(range(-12, 13), range(-12, 13)):
            if bottom:
                with self.subTest(top=top, bottom=bottom):
                    self.assertEqual(number(top, bottom), num(Fraction(top, bottom)))

    def test_great_numbers_are_made(self):
        source = drawn(5)
        for k in range(300):
            top, bottom = source.randint(-10 ** 9, 10 ** 9), source.choice((-1, 1)) * source.randint(1, 10 ** 6)
            self.assertEqual(number(top, bottom), num(Fraction(top, bottom)))

    def test_bottom_of_nought_is_refused(self):
        for top in (0, 1, -1, 10 ** 9):
            with self.subTest(top), self.assertRaises(NoNumber) as caught:
                number(top, 0)
            self.assertEqual(caught.exception.__class__, NoNumber)

    def test_added_taken_multiplied(self):
        for one, other in pairs():
            self.assertEqual(added(one, other), num(frac(one) + frac(other)))
            self.assertEqual(taken(one, other), num(frac(one) - frac(other)))
            self.assertEqual(multiplied(one, other), num(frac(one) * frac(other)))

    def test_parted(self):
        for one, other in pairs():
            if other != (0, 1):
                self.assertEqual(parted(one, other), num(frac(one) / frac(other)))

    def test_parted_by_nought_is_refused(self):
        for one in PLAIN:
            with self.subTest(one), self.assertRaises(NoNumber) as caught:
                parted(one, (0, 1))
            self.assertEqual(caught.exception.__class__, NoNumber)

    def test_is_less(self):
        for one, other in pairs():
            self.assertIs(is_less(one, other), frac(one) < frac(other))

    def test_answers_are_numbers(self):
        for one, other in pairs():
            for answer in (added(one, other), taken(one, other), multiplied(one, other)):
                self.assertTrue(is_number(answer))
