import unittest
from fractions import Fraction
from itertools import product

from levelcord.cords import bends, cord, is_taut
from levelcord.errors import NoRow, NoTube
from levelcord.tubes import is_row
from tests.helper import (
    KINDS, drawn, drawn_rows, drawn_tube, drawn_tubes, frac, is_surely_taut, no_rows, num, nums, refused,
    rows_of_sixths, spoilt, steps_of, straight_between, strange, tied,
)


def rows_by_touches(tube):
    """All taut rows that some choice of touches gives: each place between is free, at its low, or at its high."""
    found = set()
    for choice in product((None, 0, 1), repeat=len(tube) - 2):
        fixed = [(0, frac(tube[0][0]))]
        fixed += [(at, frac(tube[at][side])) for at, side in enumerate(choice, 1) if side is not None]
        fixed += [(len(tube) - 1, frac(tube[-1][0]))]
        heights = straight_between(fixed)
        if is_surely_taut(tube, nums(heights)):
            found.add(nums(heights))
    return found


class TestCord(unittest.TestCase):
    def test_plain_ones(self):
        self.assertEqual(cord(tied([(0, 0), (1, 1)])), nums((0, 1)))
        self.assertEqual(cord(tied([(0, 0), (-5, 5), (-5, 5), (1, 1)])), nums((0, Fraction(1, 3), Fraction(2, 3), 1)))
        self.assertEqual(cord(tied([(0, 0), (2, 5), (0, 1), (0, 9), (4, 4)])), nums((0, 2, 1, Fraction(5, 2), 4)))
        self.assertEqual(cord(tied([(0, 0), (1, 1), (0, 0), (3, 3)])), nums((0, 1, 0, 3)))
        self.assertEqual(cord(tied([(0, 0), (0, 1), (0, 2), (0, 3), (4, 4)])), nums(range(5)))

    def test_against_all_choices_of_touches(self):
        for tube in drawn_tubes(20, 40, (2, 3, 4, 5, 6)):
            self.assertEqual({cord(tube)}, rows_by_touches(tube))

    def test_all_small_tubes_of_four_places(self):
        pairs = [(low, high) for low, high in product(range(-1, 3), repeat=2) if low <= high]
        for one, other in product(pairs, pairs):
            for end in (-1, 0, 1, 3):
                tube = tied([(0, 0), one, other, (end, end)])
                self.assertEqual({cord(tube)}, rows_by_touches(tube))

    def test_of_all_rows_of_sixths_the_cord_alone_is_taut(self):
        source = drawn(21)
        for k in range(12):
            tube = tied(sorted((source.randint(-1, 1), source.randint(-1, 1))) for place in range(4))
            taut = [row for row in rows_of_sixths(tube) if is_taut(tube, row)]
            self.assertEqual(taut, [cord(tube)])

    def test_bends_up_at_highs_and_down_at_lows_alone(self):
        for tube in drawn_tubes(22, 30, (2, 3, 8, 24, 25)):
            row = cord(tube)
            self.assertIs(is_row(tube, row), True)
            self.assertTrue(is_surely_taut(tube, row))
            for place, way in bends(row):
                self.assertEqual(row[place], tube[place][way == "up"])

    def test_every_length(self):
        source = drawn(23)
        for places in range(2, 26):
            for kind in KINDS:
                tube = drawn_tube(source, places, kind)
                self.assertTrue(is_surely_taut(tube, cord(tube)))

    def test_zigzags_of_many_touches(self):
        for places in (3, 12, 25):
            tube = tied((10 ** 9 * (k % 2), 10 ** 9 * (k % 2) + 1) for k in range(places))
            self.assertTrue(is_surely_taut(tube, cord(tube)))
            self.assertEqual(len(bends(cord(tube))), places - 2)

    def test_straight_through(self):
        source = drawn(24)
        for places in range(2, 26):
            tube = drawn_tube(source, places, "straight")
            end, begin = frac(tube[-1][0]), frac(tube[0][0])
            line = nums(begin + (end - begin) * k / (places - 1) for k in range(places))
            if is_row(tube, line):
                self.assertEqual(cord(tube), line)
                self.assertEqual(bends(cord(tube)), ())

    def test_what_is_no_tied_tube_is_refused(self):
        good = tied([(0, 0), (1, 2), (0, 0)])
        loose = [((nums((0, 1))), good[1], good[2]), (good[0], good[1], nums((0, 1))), (good[1], good[1])]
        for thing in list(spoilt(good)) + strange() + loose + [good[:1], good[:1] * 26, (good[0], nums((2, 1)), good[2])]:
            refused(NoTube, cord, thing)
            for row in (nums((0, 1, 0)), (), None, [1]):
                refused(NoTube, is_taut, thing, row)


class TestIsTaut(unittest.TestCase):
    def test_the_cord_is_and_no_other_row(self):
        source = drawn(25)
        for tube in drawn_tubes(25, 15, (2, 3, 4, 9, 25)):
            row = cord(tube)
            self.assertIs(is_taut(tube, row), True)
            for other in drawn_rows(source, tube, 4):
                self.assertIs(is_taut(tube, other), other == row)

    def test_the_cord_with_one_number_moved_is_not(self):
        for tube in drawn_tubes(26, 15, (3, 4, 9, 25)):
            row = cord(tube)
            for at in range(len(row)):
                for by in (Fraction(1, 2), -1, Fraction(-1, 10 ** 7)):
                    other = row[:at] + (num(frac(row[at]) + by),) + row[at + 1:]
                    self.assertIs(is_taut(tube, other), False)

    def test_taut_rows_of_other_tubes_are_not(self):
        tube = tied([(0, 0), (1, 2), (0, 0)])
        self.assertIs(is_taut(tube, nums((0, 1, 0))), True)
        for row in ((0, 0, 0), (0, 2, 0), (0, 1, 2), (1, 1, 1), (0, 1), (0, 1, 0, 0)):
            self.assertIs(is_taut(tube, nums(row)), False)

    def test_what_is_no_row_is_not(self):
        tube = tied([(0, 0), (1, 2), (0, 0)])
        for thing in list(spoilt(nums((0, 1, 0)))) + no_rows():
            self.assertIs(is_taut(tube, thing), False, repr(thing))


class TestBends(unittest.TestCase):
    def test_plain_ones(self):
        self.assertEqual(bends(nums((0, 5))), ())
        self.assertEqual(bends(nums((0, 1, 2, 3))), ())
        self.assertEqual(bends(nums((0, 1, 3, 3, 3, 4))), ((1, "up"), (2, "down"), (4, "up")))
        self.assertEqual(bends(nums((0, Fraction(1, 3), Fraction(2, 3), Fraction(2, 3)))), ((2, "down"),))

    def test_all_small_rows(self):
        for row in product(range(3), repeat=5):
            climbs = steps_of(nums(row))
            wanted = tuple((at, "up" if climbs[at] > climbs[at - 1] else "down")
                           for at in range(1, 4) if climbs[at] != climbs[at - 1])
            self.assertEqual(bends(nums(row)), wanted)

    def test_lengths(self):
        for many in range(30):
            row = nums(k * k for k in range(many))
            if 2 <= many <= 25:
                self.assertEqual(bends(row), tuple((at, "up") for at in range(1, many - 1)))
            else:
                refused(NoRow, bends, row)

    def test_what_is_no_row_is_refused(self):
        for thing in list(spoilt(nums((0, 1, 0)))) + no_rows() + [(1, 1), ((1, 1),)]:
            refused(NoRow, bends, thing)
