import unittest
from fractions import Fraction
from itertools import product

from levelcord.errors import NoTube
from levelcord.looseends import is_loosely_taut, loose_cord
from levelcord.measures import is_least_at_nought, squares, worth
from levelcord.tubes import is_row
from tests.helper import (
    KINDS, drawn, drawn_bounds, drawn_measure_at_nought, drawn_open_tubes, drawn_rows, drawn_tubes, frac, fracs,
    has_sure_touches, least_level, no_rows, num, nums, open_tube, refused, rows_of_sixths, spoilt, steps_of,
    straight_between, strange,
)


def is_surely_loose(tube, row):
    """Whether a row of the tube is taut with loose ends, by the words alone."""
    climbs = steps_of(row)
    if not all(frac(low) <= frac(one) <= frac(high) for one, (low, high) in zip(row, tube)):
        return False
    if climbs[0] > 0 and row[0] != tube[0][1] or climbs[0] < 0 and row[0] != tube[0][0]:
        return False
    if climbs[-1] > 0 and row[-1] != tube[-1][0] or climbs[-1] < 0 and row[-1] != tube[-1][1]:
        return False
    return has_sure_touches(tube[1:-1], row[1:-1], climbs[:-1], climbs[1:])


def rows_by_touches(tube):
    """All rows taut with loose ends that some choice of touches gives, level ahead of the first and behind the last."""
    found = set()
    for choice in product((None, 0, 1), repeat=len(tube)):
        fixed = [(at, frac(tube[at][side])) for at, side in enumerate(choice) if side is not None]
        if fixed:
            fixed = [(0, fixed[0][1])] * (fixed[0][0] > 0) + fixed
            fixed += [(len(tube) - 1, fixed[-1][1])] * (fixed[-1][0] < len(tube) - 1)
            row = nums(straight_between(fixed))
            if is_surely_loose(tube, row):
                found.add(row)
    return found


def all_tubes(sizes):
    for seed, draw in ((60, drawn_open_tubes), (61, drawn_tubes)):
        yield from draw(seed, 25, sizes)


class TestLooseCord(unittest.TestCase):
    def test_plain_ones(self):
        self.assertEqual(loose_cord(open_tube([(0, 2), (1, 3)])), nums((1, 1)))
        self.assertEqual(loose_cord(open_tube([(0, 1), (2, 3)])), nums((1, 2)))
        self.assertEqual(loose_cord(open_tube([(2, 3), (0, 1)])), nums((2, 1)))
        self.assertEqual(loose_cord(open_tube([(0, 0), (1, 1)])), nums((0, 1)))
        self.assertEqual(loose_cord(open_tube([(0, 9), (0, 1), (-9, 9), (2, 3), (0, 9)])),
                         nums((1, 1, Fraction(3, 2), 2, 2)))
        self.assertEqual(loose_cord(open_tube([(0, 1), (3, 9), (1, 2), (-5, 9)])), nums((1, 3, 2, 2)))
        self.assertEqual(loose_cord(open_tube([(3, 9), (1, 1), (3, 9)])), nums((3, 1, 3)))
        self.assertEqual(loose_cord(open_tube([(1, 1), (3, 9), (1, 1)])), nums((1, 3, 1)))

    def test_the_greatest_low_is_far_from_the_ends(self):
        self.assertEqual(loose_cord(open_tube([(0, 2), (1, 3), (5, 9), (0, 4), (0, 3), (1, 9)])),
                         nums((2, 3, 5, 4, 3, 3)))
        self.assertEqual(loose_cord(open_tube([(-9, 4), (-9, 3), (-9, 9), (5, 9), (-9, 9), (-9, 0)])),
                         nums((3, 3, 4, 5, Fraction(5, 2), 0)))

    def test_the_least_height_that_is_in_all_bounds(self):
        for places in range(2, 26):
            tube = open_tube((-k, 10 - k // 9) for k in range(places))
            self.assertEqual(loose_cord(tube), nums([0] * places))
            wide = tube[:-1] + (((7, 2), (10, 1)),)
            self.assertEqual(loose_cord(wide), nums([Fraction(7, 2)] * places))
            one = open_tube([(3, 3)] + [(0, 3)] * (places - 1))
            self.assertEqual(loose_cord(one), nums([3] * places))

    def test_taut_by_words(self):
        levels = 0
        for tube in all_tubes((2, 3, 4, 5, 9, 24, 25)):
            row = loose_cord(tube)
            self.assertIs(is_row(tube, row), True)
            self.assertTrue(is_surely_loose(tube, row))
            level = least_level(tube)
            if level is not None:
                levels += 1
                self.assertEqual(row, level)
        self.assertGreater(levels, 10)

    def test_every_length(self):
        source = drawn(62)
        for places in range(2, 26):
            for kind in KINDS:
                tube = open_tube(drawn_bounds(source, places, kind))
                self.assertTrue(is_surely_loose(tube, loose_cord(tube)))

    def test_goes_through_each_greatest_low_and_least_high(self):
        for tube in all_tubes((2, 3, 5, 12, 25)):
            if least_level(tube) is None:
                greatest = max(frac(low) for low, high in tube)
                least = min(frac(high) for low, high in tube)
                for (low, high), one in zip(tube, fracs(loose_cord(tube))):
                    self.assertTrue(least <= one <= greatest)
                    self.assertTrue(frac(low) != greatest or one == greatest)
                    self.assertTrue(frac(high) != least or one == least)

    def test_against_all_choices_of_touches(self):
        for tube in all_tubes((2, 3, 4, 5)):
            found = rows_by_touches(tube)
            if least_level(tube) is None:
                self.assertEqual(found, {loose_cord(tube)})
            else:
                self.assertIn(loose_cord(tube), found)

    def test_all_small_tubes_of_three_places(self):
        pairs = [(low, high) for low, high in product(range(4), repeat=2) if low <= high]
        for bounds in product(pairs, repeat=3):
            tube = open_tube(bounds)
            if least_level(tube) is None:
                self.assertEqual(rows_by_touches(tube), {loose_cord(tube)})
            else:
                self.assertEqual(loose_cord(tube), least_level(tube))

    def test_of_all_rows_of_sixths_those_alone_are_taut(self):
        source = drawn(63)
        for k in range(16):
            tube = open_tube(sorted((source.randint(-1, 1), source.randint(-1, 1))) for place in range(2 + k % 3))
            rows = [row for row in rows_of_sixths(tube)]
            taut = [row for row in rows if is_loosely_taut(tube, row)]
            if least_level(tube) is None:
                self.assertEqual(taut, [loose_cord(tube)])
            else:
                self.assertEqual(taut, [row for row in rows if len(set(row)) == 1])
                self.assertEqual(loose_cord(tube), taut[0])
            self.assertEqual(min(frac(squares(row)) for row in rows), frac(squares(loose_cord(tube))))

    def test_turned_round_and_upside_down(self):
        for tube in all_tubes((2, 3, 6, 25)):
            self.assertEqual(loose_cord(tube[::-1]), loose_cord(tube)[::-1])
            if least_level(tube) is None:
                turned = tuple((num(-frac(high)), num(-frac(low))) for low, high in tube)
                self.assertEqual(loose_cord(turned), nums(-one for one in fracs(loose_cord(tube))))

    def test_no_row_is_worth_less_by_a_measure_least_at_nought(self):
        source = drawn(64)
        for tube in drawn_open_tubes(64, 12, (2, 3, 5, 9, 25)):
            row = loose_cord(tube)
            for other in drawn_rows(source, tube, 3):
                self.assertLessEqual(frac(squares(row)), frac(squares(other)))
                for k in range(3):
                    measure = drawn_measure_at_nought(source, steps_of(source.choice((row, other))))
                    self.assertTrue(is_least_at_nought(measure))
                    self.assertLessEqual(frac(worth(measure, row)), frac(worth(measure, other)))

    def test_what_is_no_tube_is_refused(self):
        good = open_tube([(0, 1), (2, 3), (1, 2)])
        for thing in list(spoilt(good)) + strange() + [(), good[:1], good[:1] * 26, (good[0], nums((2, 1)))]:
            refused(NoTube, loose_cord, thing)
            for row in (nums((1, 2, 2)), (), None, [1], thing):
                refused(NoTube, is_loosely_taut, thing, row)


class TestIsLooselyTaut(unittest.TestCase):
    def test_by_words(self):
        source = drawn(65)
        for tube in all_tubes((2, 3, 4, 9, 25)):
            self.assertIs(is_loosely_taut(tube, loose_cord(tube)), True)
            for other in drawn_rows(source, tube, 3):
                self.assertIs(is_loosely_taut(tube, other), is_surely_loose(tube, other))

    def test_every_level_row_is(self):
        tube = open_tube([(0, 3), (1, 4), (-1, 2), (0, 9)])
        for height in (1, Fraction(4, 3), Fraction(3, 2), 2):
            self.assertIs(is_loosely_taut(tube, nums([height] * 4)), True)
        for height in (0, Fraction(1, 2), Fraction(5, 2), 3):
            self.assertIs(is_loosely_taut(tube, nums([height] * 4)), False)

    def test_first_and_last_steps(self):
        rising = open_tube([(0, 2), (4, 6)])
        falling = rising[::-1]
        for first, last in product((0, 1, 2), (4, 5, 6)):
            self.assertIs(is_loosely_taut(rising, nums((first, last))), (first, last) == (2, 4))
            self.assertIs(is_loosely_taut(falling, nums((last, first))), (first, last) == (2, 4))
        middle = [(0, 2), (4, 4), (0, 2)]
        for first, last in product((0, 1, 2), repeat=2):
            self.assertIs(is_loosely_taut(open_tube(middle), nums((first, 4, last))), (first, last) == (2, 2))
        valley = [(4, 6), (2, 2), (4, 6)]
        for first, last in product((4, 5, 6), repeat=2):
            self.assertIs(is_loosely_taut(open_tube(valley), nums((first, 2, last))), (first, last) == (4, 4))

    def test_with_one_number_moved(self):
        for tube in drawn_open_tubes(66, 10, (3, 4, 9, 25)):
            row = loose_cord(tube)
            for at in range(len(row)):
                for by in (Fraction(1, 2), -1, Fraction(-1, 10 ** 7)):
                    other = row[:at] + (num(frac(row[at]) + by),) + row[at + 1:]
                    self.assertIs(is_loosely_taut(tube, other), False)

    def test_what_is_no_row_is_not(self):
        tube = open_tube([(0, 1), (2, 3), (1, 2)])
        self.assertIs(is_loosely_taut(tube, nums((1, 2, 2))), True)
        others = [(), nums((1, 2)), nums((1, 2, 2, 2)), nums((1, 2, 0)), nums((2, 2, 2)), nums((1, 1, 1))]
        for thing in list(spoilt(nums((1, 2, 2)))) + no_rows() + others:
            self.assertIs(is_loosely_taut(tube, thing), False, repr(thing))
