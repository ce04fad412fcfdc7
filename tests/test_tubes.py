import unittest
from itertools import product

from levelcord.errors import NoNumber, NoRow, NoTube
from levelcord.tubes import is_row, is_tied, is_tube, row_of, steps
from tests.helper import (
    drawn, drawn_rows, drawn_tubes, frac, great_number, no_numbers, no_rows, num, nums, refused, small_number, spoilt, steps_of,
    strange,
)

ONE, TWO, HALF = (1, 1), (2, 1), (1, 2)
TIED = ((ONE, ONE), (HALF, TWO), (TWO, TWO))
LOOSE = ((HALF, ONE), (HALF, TWO), (TWO, TWO))


def long_tube(places):
    return ((ONE, ONE),) * places


class TestTubes(unittest.TestCase):
    def test_tubes(self):
        for tube in (TIED, LOOSE, LOOSE[:2], LOOSE[1:], long_tube(2), long_tube(25)):
            with self.subTest(tube):
                self.assertIs(is_tube(tube), True)
        for tube in drawn_tubes(10, 20, (2, 3, 7, 24, 25)):
            self.assertIs(is_tube(tube), True)

    def test_lengths(self):
        for places in range(30):
            with self.subTest(places):
                self.assertIs(is_tube(long_tube(places)), 2 <= places <= 25)
                self.assertIs(is_tied(long_tube(places)), 2 <= places <= 25)

    def test_low_is_at_most_high(self):
        numbers = nums((-1, 0, 1)) + (HALF, (-1, 2), (1, 3), (-1, 3))
        for low, high in product(numbers, numbers):
            for tube in (((low, high), TIED[0]), (TIED[0], (low, high)), (TIED[0], (low, high), TIED[0])):
                self.assertIs(is_tube(tube), frac(low) <= frac(high))

    def test_tied_where_both_ends_are(self):
        wide = (HALF, TWO)
        for first, last in product((TIED[0], wide), (TIED[0], wide)):
            for tube in ((first, last), (first, wide, last), (first, TIED[0], last)):
                with self.subTest(tube):
                    self.assertIs(is_tied(tube), first != wide and last != wide)
        for tube in drawn_tubes(11, 20, (2, 3, 7, 25)):
            self.assertIs(is_tied(tube), True)

    def test_spoilt_ones_are_none(self):
        for tube in (TIED, LOOSE, long_tube(2), long_tube(25)):
            for thing in spoilt(tube):
                self.assertIs(is_tube(thing), False, repr(thing))
                self.assertIs(is_tied(thing), False, repr(thing))

    def test_things_of_any_kind_are_none(self):
        for thing in no_numbers() + [ONE, (ONE,), (ONE, TWO), ((ONE, ONE),), (None, None)]:
            self.assertIs(is_tube(thing), False, repr(thing))
            self.assertIs(is_tied(thing), False, repr(thing))


class TestRows(unittest.TestCase):
    def test_rows_of_a_tube(self):
        source = drawn(12)
        for tube in drawn_tubes(12, 20, (2, 3, 7, 25)):
            for row in drawn_rows(source, tube, 3):
                self.assertIs(is_row(tube, row), True)

    def test_each_number_is_from_low_to_high(self):
        heights = nums((0, 1, 2, 3)) + (HALF, (1, 3), (1, 4), (5, 2), (3, 2))
        for row in product(heights, repeat=3):
            good = all(frac(low) <= frac(one) <= frac(high) for one, (low, high) in zip(row, LOOSE))
            self.assertIs(is_row(LOOSE, row), good)

    def test_a_number_too_few_or_too_many(self):
        row = (ONE, ONE, TWO)
        self.assertIs(is_row(TIED, row), True)
        for thing in ((), row[:1], row[:2], row + (TWO,), row + row):
            self.assertIs(is_row(TIED, thing), False)

    def test_spoilt_rows_are_none(self):
        for thing in list(spoilt((ONE, ONE, TWO))) + no_numbers():
            self.assertIs(is_row(TIED, thing), False, repr(thing))
            self.assertIs(is_row(LOOSE, thing), False, repr(thing))

    def test_no_tube_is_refused_whatever_stands_for_the_row(self):
        for tube in list(spoilt(TIED)) + strange() + [long_tube(1), long_tube(26)]:
            for thing in ((ONE, ONE, TWO), (), None, [ONE]):
                refused(NoTube, is_row, tube, thing)


class TestSteps(unittest.TestCase):
    def test_steps(self):
        self.assertEqual(steps((ONE, TWO)), (ONE,))
        self.assertEqual(steps((ONE, HALF, TWO, TWO)), ((-1, 2), (3, 2), (0, 1)))

    def test_row_of(self):
        self.assertEqual(row_of(ONE, (ONE,)), (ONE, TWO))
        self.assertEqual(row_of(ONE, ((-1, 2), (3, 2), (0, 1))), (ONE, HALF, TWO, TWO))

    def test_each_leads_back_to_the_other(self):
        source = drawn(13)
        for draw in (small_number, great_number):
            for many in list(range(1, 25)) * 3:
                first, given = draw(source), tuple(draw(source) for k in range(many))
                row = row_of(first, given)
                self.assertEqual((len(row), row[0]), (many + 1, first))
                self.assertEqual(steps(row), given)
                self.assertEqual(row_of(row[0], steps(row)), row)
                self.assertEqual(steps(row), tuple(num(step) for step in steps_of(row)))

    def test_lengths(self):
        for many in range(30):
            numbers = (HALF,) * many
            if 2 <= many <= 25:
                self.assertEqual(steps(numbers), ((0, 1),) * (many - 1))
            else:
                refused(NoRow, steps, numbers)
            if 1 <= many <= 24:
                self.assertEqual(row_of(ONE, numbers), nums(1 + frac(HALF) * k for k in range(many + 1)))
            else:
                refused(NoRow, row_of, ONE, numbers)

    def test_what_is_no_row_is_refused(self):
        for thing in list(spoilt((ONE, HALF, TWO))) + no_rows() + [ONE, (ONE,)]:
            refused(NoRow, steps, thing)

    def test_no_number_is_refused_ahead_of_no_row(self):
        for first in no_numbers():
            for given in ((ONE,), (), None, [ONE]):
                refused(NoNumber, row_of, first, given)
        for given in list(spoilt((ONE, HALF, TWO))) + no_rows() + [ONE]:
            refused(NoRow, row_of, HALF, given)
