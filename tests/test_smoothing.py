import unittest
from fractions import Fraction
from itertools import product

from levelcord.cords import cord
from levelcord.errors import NoData, NoPrice, NoRow
from levelcord.smoothing import costs, smoothed, tube_of
from levelcord.tubes import is_tied, steps
from tests.helper import (
    drawn, drawn_data, drawn_price, frac, fracs, no_numbers, no_rows, num, nums, refused, spoilt,
)

DATA = nums((3, 1, Fraction(1, 2)))
PRICES = nums((0, Fraction(1, 10 ** 6), Fraction(1, 3), 1, 7, 10 ** 9))
WRONG_PRICES = no_numbers() + [(-1, 1), (-1, 10 ** 6), (-10 ** 9, 1)]


def wrong_data():
    return list(spoilt(DATA)) + no_rows() + [(), DATA * 9, ((0, 1),) * 25]


def costs_by_words(data, price, row):
    data, row = fracs(data), fracs(row)
    together = sum((one - other) ** 2 for one, other in zip(data, row))
    return together + 2 * frac(price) * sum(abs(one - other) for one, other in zip(row, row[1:]))


def moved(row, begin, end, by):
    """A row with its numbers from a first one up to another one moved by as much."""
    return nums(one + by * (begin <= at < end) for at, one in enumerate(fracs(row)))


def drawn_questions(seed, rounds, lengths):
    source = drawn(seed)
    for k in range(rounds):
        for many in lengths:
            data = drawn_data(source, many)
            yield data, drawn_price(source, data)


class TestTubeOf(unittest.TestCase):
    def test_plain_ones(self):
        self.assertEqual(tube_of(nums((5,)), (2, 1)), (nums((0, 0)), nums((5, 5))))
        self.assertEqual(tube_of(DATA, (1, 3)), (
            nums((0, 0)), ((8, 3), (10, 3)), ((11, 3), (13, 3)), ((9, 2), (9, 2))))

    def test_by_words(self):
        for data, price in drawn_questions(80, 4, range(1, 25)):
            tube = tube_of(data, price)
            self.assertEqual(len(tube), len(data) + 1)
            self.assertIs(is_tied(tube), True)
            for at, place in enumerate(tube):
                height = sum(fracs(data[:at]))
                by = frac(price) if 0 < at < len(data) else 0
                self.assertEqual(place, nums((height - by, height + by)))


class TestSmoothed(unittest.TestCase):
    def test_plain_ones(self):
        self.assertEqual(smoothed(nums((5,)), (2, 1)), nums((5,)))
        self.assertEqual(smoothed(nums((0, 4)), (1, 1)), nums((1, 3)))
        self.assertEqual(smoothed(nums((0, 4)), (2, 1)), nums((2, 2)))
        self.assertEqual(smoothed(nums((0, 6, 0)), (1, 1)), nums((1, 4, 1)))
        self.assertEqual(smoothed(nums((0, 1, 5)), (1, 1)), nums((1, 1, 4)))

    def test_the_steps_of_the_cord_in_the_tube_of_sums(self):
        for data, price in drawn_questions(81, 3, range(1, 25)):
            row = smoothed(data, price)
            self.assertIs(row.__class__, tuple)
            self.assertEqual(row, steps(cord(tube_of(data, price))))

    def test_costs_less_than_each_other_row_tried(self):
        source = drawn(82)
        for data, price in drawn_questions(82, 3, (1, 2, 3, 4, 7, 12, 24)):
            row = smoothed(data, price)
            least = frac(costs(data, price, row))
            tried = [data, nums([sum(fracs(data)) / len(data)] * len(data)), drawn_data(source, len(data))]
            ends = [(begin, end) for begin, end in product(range(25), repeat=2) if begin < end <= len(data)]
            for begin, end in ends if len(data) < 8 else source.sample(ends, 20):
                for by in (1, -1, Fraction(1, 10 ** 12), Fraction(-1, 10 ** 12)):
                    tried.append(moved(row, begin, end, by))
            for other in tried:
                if other != row:
                    self.assertGreater(frac(costs(data, price, other)), least)

    def test_of_all_rows_of_sixths_the_one_that_costs_least(self):
        rows = list(product(range(13), repeat=3))
        for data in product(range(3), repeat=3):
            for price in (0, 2, 4, 6):
                # all in sixths, so that whole numbers are enough
                def cost(row):
                    off = sum((6 * one - other) ** 2 for one, other in zip(data, row))
                    return off + 2 * price * (abs(row[0] - row[1]) + abs(row[1] - row[2]))
                best = min(rows, key=cost)
                self.assertEqual(smoothed(nums(data), num(Fraction(price, 6))), nums(Fraction(one, 6) for one in best))

    def test_the_data_at_price_0(self):
        for data, price in drawn_questions(83, 3, range(1, 25)):
            self.assertEqual(smoothed(data, (0, 1)), data)
            self.assertEqual(costs(data, (0, 1), data), (0, 1))

    def test_all_alike_at_a_great_price(self):
        for data, price in drawn_questions(84, 3, range(1, 25)):
            great = num(sum(abs(one) for one in fracs(data)) * 2)
            self.assertEqual(smoothed(data, great), nums([sum(fracs(data)) / len(data)] * len(data)))
            self.assertEqual(smoothed(data[:1] * len(data), price), data[:1] * len(data))

    def test_neighbours_that_are_alike_stay_alike(self):
        for data, price in drawn_questions(85, 4, (2, 3, 5, 9, 24)):
            ahead = smoothed(data, price)
            for more in PRICES:
                after = smoothed(data, num(frac(price) + frac(more)))
                for at in range(1, len(data)):
                    if ahead[at] == ahead[at - 1]:
                        self.assertEqual(after[at], after[at - 1])


class TestCosts(unittest.TestCase):
    def test_plain_ones(self):
        self.assertEqual(costs(nums((5,)), (2, 1), nums((3,))), (4, 1))
        self.assertEqual(costs(nums((0, 4)), (1, 1), nums((1, 3))), (6, 1))
        self.assertEqual(costs(nums((0, 4)), (1, 2), nums((4, 0))), (36, 1))
        self.assertEqual(costs(DATA, (1, 3), nums((0, Fraction(1, 2), -1))), (77, 6))

    def test_by_words(self):
        source = drawn(86)
        for data, price in drawn_questions(86, 3, range(1, 25)):
            for row in (data, smoothed(data, price), drawn_data(source, len(data))):
                self.assertEqual(costs(data, price, row), num(costs_by_words(data, price, row)))


class TestRefusals(unittest.TestCase):
    def test_lengths(self):
        for many in range(30):
            data = ((1, 2),) * many
            if 1 <= many <= 24:
                self.assertEqual(smoothed(data, (1, 1)), data)
                self.assertEqual(len(tube_of(data, (1, 1))), many + 1)
                self.assertEqual(costs(data, (1, 1), data), (0, 1))
            else:
                refused(NoData, smoothed, data, (1, 1))
                refused(NoData, tube_of, data, (1, 1))
                refused(NoData, costs, data, (1, 1), data)

    def test_no_data_is_refused_ahead_of_all(self):
        for data in wrong_data():
            for price in ((1, 1), (-1, 1), None, []):
                refused(NoData, tube_of, data, price)
                refused(NoData, smoothed, data, price)
                for row in (DATA, (), None):
                    refused(NoData, costs, data, price, row)

    def test_then_no_price(self):
        for price in WRONG_PRICES:
            refused(NoPrice, tube_of, DATA, price)
            refused(NoPrice, smoothed, DATA, price)
            for row in (DATA, DATA[:2], (), None):
                refused(NoPrice, costs, DATA, price, row)

    def test_then_no_row(self):
        for price in PRICES:
            tube_of(DATA, price)
            smoothed(DATA, price)
            for row in list(spoilt(DATA)) + no_rows() + [(), DATA[:2], DATA + DATA[:1], DATA * 9]:
                refused(NoRow, costs, DATA, price, row)
