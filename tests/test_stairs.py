import unittest
from fractions import Fraction
from itertools import product

from levelcord.errors import NoData, NoPrice
from levelcord.smoothing import smoothed
from levelcord.stairs import at_price, stair
from tests.helper import drawn, drawn_data, frac, great_number, no_numbers, no_rows, num, nums, refused, spoilt

DATA = nums((3, 1, Fraction(1, 2)))


def alike(row):
    """The places of numbers that are like the one ahead of them."""
    return {at for at in range(1, len(row)) if row[at] == row[at - 1]}


def drawn_datas(seed, rounds):
    source = drawn(seed)
    for k in range(rounds):
        for many in range(1, 25):
            yield drawn_data(source, many)


class TestStair(unittest.TestCase):
    def test_plain_ones(self):
        self.assertEqual(stair(nums((5,))), (((0, 1), nums((5,))),))
        self.assertEqual(stair(nums((0, 4))), (((0, 1), nums((0, 4))), ((2, 1), nums((2, 2)))))
        self.assertEqual(stair(nums((0, 6, 0))), (((0, 1), nums((0, 6, 0))), ((2, 1), nums((2, 2, 2)))))
        self.assertEqual(stair(nums((0, 1, 5))), (
            ((0, 1), nums((0, 1, 5))), ((1, 1), nums((1, 1, 4))), ((3, 1), nums((2, 2, 2)))))
        self.assertEqual(stair(nums((0, 0, 3))), (((0, 1), nums((0, 0, 3))), ((2, 1), nums((1, 1, 1)))))
        self.assertEqual(stair(nums((0, 3, 1, 4))), (
            ((0, 1), nums((0, 3, 1, 4))), ((1, 2), nums((Fraction(1, 2), 2, 2, Fraction(7, 2)))),
            ((2, 1), nums((2, 2, 2, 2)))))

    def test_of_data_all_alike_the_first_pair_alone(self):
        source = drawn(90)
        for many in range(1, 25):
            for one in ((0, 1), (-7, 3), great_number(source)):
                self.assertEqual(stair((one,) * many), (((0, 1), (one,) * many),))

    def asked(self, data):
        told = stair(data)
        self.assertIs(told.__class__, tuple)
        self.assertEqual(told[0], ((0, 1), data))
        self.assertEqual(len(alike(told[-1][1])), len(data) - 1)
        for (price, row), (later, other) in zip(told, told[1:]):
            self.assertLess(frac(price), frac(later))
            self.assertLess(alike(row), alike(other))
            # what is alike is so from a price of the stair on, not at prices less
            between = num((frac(price) + 99 * frac(later)) / 100)
            self.assertEqual(alike(smoothed(data, between)), alike(row))
        for pair in told:
            self.assertIs(pair.__class__, tuple)
            price, row = pair
            self.assertEqual(row, smoothed(data, price))

    def test_by_words(self):
        for data in drawn_datas(91, 4):
            self.asked(data)

    def test_all_small_data(self):
        for many in (1, 2, 3, 4, 5):
            for data in product(range(3), repeat=many):
                self.asked(nums(data))

    def test_data_in_turn_and_rising(self):
        for many in range(1, 25):
            self.asked(nums(k % 2 for k in range(many)))
            self.asked(nums(range(many)))
            self.asked(nums(k * k for k in range(many)))
            self.asked(nums((-1) ** k * Fraction(10 ** 9, k + 1) for k in range(many)))

    def test_turned_round(self):
        for data in drawn_datas(92, 2):
            self.assertEqual(stair(data[::-1]), tuple((price, row[::-1]) for price, row in stair(data)))

    def test_what_is_no_data_is_refused(self):
        for thing in list(spoilt(DATA)) + no_rows() + [(), DATA * 9, ((0, 1),) * 25]:
            refused(NoData, stair, thing)


class TestAtPrice(unittest.TestCase):
    def test_plain_ones(self):
        told = stair(nums((0, 1, 5)))
        self.assertEqual(at_price(told, (0, 1)), nums((0, 1, 5)))
        self.assertEqual(at_price(told, (1, 2)), nums((Fraction(1, 2), 1, Fraction(9, 2))))
        self.assertEqual(at_price(told, (2, 1)), nums((Fraction(3, 2), Fraction(3, 2), 3)))
        self.assertEqual(at_price(told, (3, 1)), nums((2, 2, 2)))
        self.assertEqual(at_price(told, (10 ** 9, 1)), nums((2, 2, 2)))

    def test_the_smoothed_row_at_any_price(self):
        source = drawn(93)
        for data in drawn_datas(93, 2):
            told = stair(data)
            prices = [frac(price) for price, row in told]
            prices += [one + (other - one) * Fraction(source.randint(0, 5), 5) for one, other in zip(prices, prices[1:])]
            last = max(prices)
            for price in prices + [Fraction(0), last + Fraction(1, 3), last + 10 ** 9, Fraction(1, 3), last / 3, last / 7]:
                row = at_price(told, num(price))
                self.assertIs(row.__class__, tuple)
                self.assertEqual(row, smoothed(data, num(price)))

    def test_of_data_all_alike(self):
        told = stair(DATA[:1] * 7)
        for price in (0, Fraction(1, 3), 10 ** 9):
            self.assertEqual(at_price(told, num(price)), DATA[:1] * 7)

    def test_goes_evenly(self):
        for data in drawn_datas(94, 1):
            told = stair(data)
            for (price, row), (later, other) in zip(told, told[1:]):
                for share in (Fraction(1, 2), Fraction(1, 3), Fraction(9, 10)):
                    between = num(frac(price) + (frac(later) - frac(price)) * share)
                    self.assertEqual(at_price(told, between), nums(
                        frac(one) + (frac(two) - frac(one)) * share for one, two in zip(row, other)))

    def test_what_is_no_price_is_refused(self):
        for told in (stair(DATA), stair(DATA[:1])):
            for price in no_numbers() + [(-1, 1), (-1, 10 ** 6), (-10 ** 9, 1)]:
                refused(NoPrice, at_price, told, price)
