import unittest
from fractions import Fraction
from itertools import product

from levelcord.errors import NoRow, NoTube
from levelcord.measures import squares, worth
from levelcord.rings import is_ring, is_ring_taut, ring_cord, ring_steps
from levelcord.tubes import is_row
from tests.helper import (
    KINDS, drawn, drawn_bounds, drawn_measure, drawn_open_tubes, drawn_rows, drawn_tubes, frac, fracs, has_sure_touches,
    least_level, no_rows, num, nums, open_tube, refused, rows_of_sixths, spoilt, steps_of, straight_between, strange,
)

PLAIN = open_tube([(0, 1), (2, 3), (0, 9), (-1, 0)])


def closed(row):
    return row + row[:1]


def is_surely_ring_taut(tube, row):
    """Whether a row is taut round the ring, by the words alone."""
    climbs = steps_of(closed(row))
    return has_sure_touches(tube, row, climbs[-1:] + climbs[:-1], climbs)


def rows_by_touches(tube):
    """All rows taut round the ring that some choice of touches gives, at least one."""
    found = set()
    many = len(tube)
    for choice in product((None, 0, 1), repeat=many):
        fixed = [(at, frac(tube[at][side])) for at, side in enumerate(choice) if side is not None]
        if fixed:
            begin = fixed[0][0]
            round_it = straight_between(fixed + [(begin + many, fixed[0][1])])[:-1]
            row = nums(round_it[many - begin:] + round_it[:many - begin])
            if is_surely_ring_taut(tube, row):
                found.add(row)
    return found


def all_rings(sizes):
    for seed, draw in ((70, drawn_open_tubes), (71, drawn_tubes)):
        yield from draw(seed, 25, sizes)


def no_rings():
    two, many = PLAIN[:2], PLAIN[:1] * 25
    return list(spoilt(PLAIN)) + strange() + [(), two, two[:1], many, PLAIN[:1] * 26, PLAIN[:3] + (nums((2, 1)),)]


class TestIsRing(unittest.TestCase):
    def test_lengths(self):
        for places in range(30):
            tube = PLAIN[:1] * places
            self.assertIs(is_ring(tube), 3 <= places <= 24)
            if not 3 <= places <= 24:
                refused(NoTube, ring_cord, tube)
                refused(NoTube, is_ring_taut, tube, nums([0] * places))

    def test_rings(self):
        for tube in all_rings((3, 4, 24)):
            self.assertIs(is_ring(tube), True)

    def test_what_is_none(self):
        for thing in no_rings():
            self.assertIs(is_ring(thing), False, repr(thing))


class TestRingSteps(unittest.TestCase):
    def test_plain_ones(self):
        self.assertEqual(ring_steps(nums((0, 1, 3))), nums((1, 2, -3)))
        self.assertEqual(ring_steps(nums((5, 5, 5, 5))), nums((0, 0, 0, 0)))
        self.assertEqual(ring_steps(nums((0, Fraction(1, 2), 2, -1))), nums((Fraction(1, 2), Fraction(3, 2), -3, 1)))

    def test_as_many_as_places_and_nothing_together(self):
        source = drawn(72)
        for tube in all_rings((3, 7, 24)):
            for row in drawn_rows(source, tube, 1):
                self.assertEqual(ring_steps(row), nums(steps_of(closed(row))))
                self.assertEqual(sum(fracs(ring_steps(row))), 0)

    def test_lengths(self):
        for many in range(30):
            if 3 <= many <= 24:
                self.assertEqual(ring_steps(nums(range(many))), nums([1] * (many - 1) + [1 - many]))
            else:
                refused(NoRow, ring_steps, nums(range(many)))

    def test_what_is_no_row_is_refused(self):
        for thing in list(spoilt(nums((0, 1, 3)))) + no_rows() + [(1, 1), ((1, 1),)]:
            refused(NoRow, ring_steps, thing)


class TestRingCord(unittest.TestCase):
    def test_plain_ones(self):
        self.assertEqual(ring_cord(PLAIN), nums((1, 2, 1, 0)))
        self.assertEqual(ring_cord(open_tube([(0, 5), (1, 6), (2, 7)])), nums((2, 2, 2)))
        self.assertEqual(ring_cord(open_tube([(0, 0), (1, 1), (2, 2)])), nums((0, 1, 2)))
        self.assertEqual(ring_cord(open_tube([(-9, 9), (0, 1), (-9, 9), (-9, 9), (4, 6)])),
                         nums((Fraction(5, 2), 1, 2, 3, 4)))

    def test_the_least_height_that_is_in_all_bounds(self):
        for places in range(3, 25):
            tube = open_tube((-k, 10 - k // 9) for k in range(places))
            self.assertEqual(ring_cord(tube), nums([0] * places))
            self.assertEqual(ring_cord(tube[:-1] + (((7, 2), (10, 1)),)), nums([Fraction(7, 2)] * places))
            self.assertEqual(ring_cord(open_tube([(0, 3)] * (places - 1) + [(3, 3)])), nums([3] * places))

    def test_taut_by_words(self):
        levels = 0
        for tube in all_rings((3, 4, 5, 9, 23, 24)):
            row = ring_cord(tube)
            self.assertIs(is_row(tube, row), True)
            self.assertTrue(is_surely_ring_taut(tube, row))
            if least_level(tube) is not None:
                levels += 1
                self.assertEqual(row, least_level(tube))
        self.assertGreater(levels, 10)

    def test_every_length(self):
        source = drawn(73)
        for places in range(3, 25):
            for kind in KINDS:
                tube = open_tube(drawn_bounds(source, places, kind))
                self.assertTrue(is_surely_ring_taut(tube, ring_cord(tube)))

    def test_against_all_choices_of_touches(self):
        for tube in all_rings((3, 4, 5)):
            found = rows_by_touches(tube)
            if least_level(tube) is None:
                self.assertEqual(found, {ring_cord(tube)})
            else:
                self.assertIn(ring_cord(tube), found)

    def test_all_small_rings_of_three_places(self):
        pairs = [(low, high) for low, high in product(range(4), repeat=2) if low <= high]
        for bounds in product(pairs, repeat=3):
            tube = open_tube(bounds)
            if least_level(tube) is None:
                self.assertEqual(rows_by_touches(tube), {ring_cord(tube)})
            else:
                self.assertEqual(ring_cord(tube), least_level(tube))

    def test_of_all_rows_of_sixths_those_alone_are_taut(self):
        source = drawn(74)
        for k in range(14):
            tube = open_tube(sorted((source.randint(-1, 1), source.randint(-1, 1))) for place in range(3 + k % 2))
            rows = list(rows_of_sixths(tube))
            taut = [row for row in rows if is_ring_taut(tube, row)]
            if least_level(tube) is None:
                self.assertEqual(taut, [ring_cord(tube)])
            else:
                self.assertEqual(taut, [row for row in rows if len(set(row)) == 1])
                self.assertEqual(ring_cord(tube), taut[0])
            least = frac(squares(closed(ring_cord(tube))))
            self.assertEqual(min(frac(squares(closed(row))) for row in rows), least)

    def test_begun_at_another_place(self):
        for tube in all_rings((3, 4, 8, 24)):
            row = ring_cord(tube)
            for begin in range(0, len(tube), 1 + len(tube) // 6):
                self.assertEqual(ring_cord(tube[begin:] + tube[:begin]), row[begin:] + row[:begin])
            self.assertEqual(ring_cord(tube[::-1]), row[::-1])

    def test_no_row_is_worth_less_by_any_measure(self):
        source = drawn(75)
        for tube in drawn_open_tubes(75, 12, (3, 5, 9, 24)):
            row = closed(ring_cord(tube))
            for other in drawn_rows(source, tube, 3):
                other = closed(other)
                self.assertLessEqual(frac(squares(row)), frac(squares(other)))
                for k in range(3):
                    measure = drawn_measure(source, steps_of(source.choice((row, other))))
                    self.assertLessEqual(frac(worth(measure, row)), frac(worth(measure, other)))

    def test_what_is_no_ring_is_refused(self):
        for thing in no_rings():
            refused(NoTube, ring_cord, thing)
            for row in (nums((1, 2, 1, 0)), (), None, [1], thing):
                refused(NoTube, is_ring_taut, thing, row)


class TestIsRingTaut(unittest.TestCase):
    def test_by_words(self):
        source = drawn(76)
        for tube in all_rings((3, 4, 9, 24)):
            self.assertIs(is_ring_taut(tube, ring_cord(tube)), True)
            for other in drawn_rows(source, tube, 3):
                self.assertIs(is_ring_taut(tube, other), is_surely_ring_taut(tube, other))

    def test_every_level_row_is(self):
        tube = open_tube([(0, 3), (1, 4), (-1, 2), (0, 9)])
        for height in (1, Fraction(4, 3), Fraction(3, 2), 2):
            self.assertIs(is_ring_taut(tube, nums([height] * 4)), True)
        for height in (0, Fraction(1, 2), Fraction(5, 2), 3):
            self.assertIs(is_ring_taut(tube, nums([height] * 4)), False)

    def test_a_bend_at_the_first_and_at_the_last_place(self):
        for begin in range(3):
            for first in (0, 1, 2):
                bounds, row = [(0, 2), (5, 5), (5, 5)], (first, 5, 5)
                tube = open_tube(bounds[begin:] + bounds[:begin])
                self.assertIs(is_ring_taut(tube, nums(row[begin:] + row[:begin])), first == 2)

    def test_with_one_number_moved(self):
        for tube in drawn_open_tubes(77, 10, (3, 4, 9, 24)):
            row = ring_cord(tube)
            for at in range(len(row)):
                for by in (Fraction(1, 2), -1, Fraction(-1, 10 ** 7)):
                    other = row[:at] + (num(frac(row[at]) + by),) + row[at + 1:]
                    self.assertIs(is_ring_taut(tube, other), False)

    def test_what_is_no_row_is_not(self):
        self.assertIs(is_ring_taut(PLAIN, nums((1, 2, 1, 0))), True)
        others = [(), nums((1, 2, 1)), nums((1, 2, 1, 0, 1)), nums((2, 2, 1, 0)), nums((0, 0, 0, 0))]
        for thing in list(spoilt(nums((1, 2, 1, 0)))) + no_rows() + others:
            self.assertIs(is_ring_taut(PLAIN, thing), False, repr(thing))
