import unittest
from fractions import Fraction
from itertools import permutations, product

from levelcord.cords import cord
from levelcord.errors import NoLevel, NoRow, NoTube
from levelcord.levellings import between, levelled, to_cord
from levelcord.tubes import row_of, steps
from tests.helper import (
    KINDS, drawn, drawn_rows, drawn_tube, drawn_tubes, frac, fracs, great_number, no_rows, num, nums, refused,
    small_number, spoilt, strange, tied,
)

ONE, TWO, HALF = (1, 1), (2, 1), (1, 2)
GIVEN = nums((5, 1, 3))
WALK = ((0, 1, HALF), (2, 1, HALF))


def walked_by_words(given, levellings):
    """The steps walked to; each levelling must be one of the steps that it finds."""
    heights = fracs(given)
    for greater, less, amount in levellings:
        assert greater != less and greater >= 0 and less >= 0
        assert 0 < frac(amount) <= heights[greater] - heights[less]
        heights[greater] -= frac(amount)
        heights[less] += frac(amount)
    return nums(heights)


def some_lead(other, given):
    """Whether levellings lead from other to given, by their greatest sums."""
    more, less = sorted(fracs(other), reverse=True), sorted(fracs(given), reverse=True)
    sums = [(sum(more[:k]), sum(less[:k])) for k in range(1, len(more) + 1)]
    return sums[-1][0] == sums[-1][1] and all(one >= two for one, two in sums)


class TestLevelled(unittest.TestCase):
    def test_walked_to_the_last(self):
        self.assertEqual(levelled(GIVEN, WALK), nums((Fraction(9, 2), 2, Fraction(5, 2))))
        self.assertEqual(levelled(GIVEN, ((0, 1, (4, 1)),)), nums((1, 5, 3)))
        self.assertEqual(levelled(GIVEN, ((0, 1, (4, 1)), (1, 0, (4, 1)))), GIVEN)

    def test_without_a_levelling(self):
        for many in range(1, 25):
            given = (HALF,) * many
            self.assertEqual(levelled(given, ()), given)

    def test_amounts(self):
        for amount in (Fraction(1, 10 ** 6), 1, 2, Fraction(7, 2), 4):
            answer = levelled(GIVEN, ((0, 1, num(amount)),))
            self.assertEqual(answer, nums((5 - amount, 1 + amount, 3)))
        for amount in (0, -1, Fraction(-1, 2), 4 + Fraction(1, 10 ** 6), 5, 10 ** 9):
            self.assertEqual(refused(NoLevel, levelled, GIVEN, ((0, 1, num(amount)),)).number, 0)

    def test_two_unlike_steps(self):
        for pair in product(range(-4, 5), repeat=2):
            levelling = (*pair, HALF)
            if pair in ((0, 1), (0, 2), (2, 1)):
                self.assertEqual(levelled(GIVEN, (levelling,)), walked_by_words(GIVEN, (levelling,)))
            else:
                self.assertEqual(refused(NoLevel, levelled, GIVEN, (levelling,)).number, 0)
        self.assertEqual(refused(NoLevel, levelled, (HALF, HALF), ((0, 1, HALF),)).number, 0)

    def test_the_first_one_that_can_t_be_done_is_told(self):
        for good in range(5):
            walk = ((0, 1, HALF),) * good
            self.assertEqual(levelled(GIVEN, walk), nums((5 - Fraction(good, 2), 1 + Fraction(good, 2), 3)))
            for bad in (None, (0, 1, (9, 1)), (0, 0, HALF), (0, 3, HALF), (True, 1, HALF), [0, 1, HALF]):
                self.assertEqual(refused(NoLevel, levelled, GIVEN, walk + (bad,)).number, good)
                self.assertEqual(refused(NoLevel, levelled, GIVEN, walk + (bad, None, (0, 1, HALF))).number, good)
        self.assertEqual(refused(NoLevel, levelled, GIVEN, ((0, 1, TWO), (0, 1, HALF))).number, 1)

    def test_each_part_spoilt(self):
        for at, levelling in enumerate(WALK):
            for thing in list(spoilt(levelling)) + strange() + [levelling[:2], levelling + (ONE,), (levelling,)]:
                walk = WALK[:at] + (thing,) + WALK[at + 1:]
                self.assertEqual(refused(NoLevel, levelled, GIVEN, walk).number, at)

    def test_levellings_that_are_no_tuple(self):
        for thing in strange() + [list(WALK), {0: WALK[0]}, "ab"]:
            if not isinstance(thing, tuple):
                self.assertIsNone(refused(NoLevel, levelled, GIVEN, thing).number)

    def test_no_row_is_refused_ahead_of_no_level(self):
        for given in list(spoilt(GIVEN)) + no_rows() + [(), (ONE,) * 25]:
            for levellings in ((), WALK, None, (None,)):
                refused(NoRow, levelled, given, levellings)


class TestToCord(unittest.TestCase):
    def leads(self, tube, row):
        told = to_cord(tube, row)
        self.assertIs(told.__class__, tuple)
        self.assertLessEqual(len(told), 2 * (len(tube) - 1))
        self.assertEqual(levelled(steps(row), told), steps(cord(tube)))
        self.assertEqual(walked_by_words(steps(row), told), steps(cord(tube)))

    def test_drawn_rows(self):
        source = drawn(40)
        for tube in drawn_tubes(40, 12, (2, 3, 4, 8)):
            for row in drawn_rows(source, tube, 3) + [cord(tube)]:
                self.leads(tube, row)

    def test_25_places(self):
        source = drawn(41)
        for kind in KINDS:
            for k in range(4):
                tube = drawn_tube(source, 25, kind)
                for row in drawn_rows(source, tube, 2):
                    self.leads(tube, row)

    def test_the_cord_itself_needs_none(self):
        for tube in drawn_tubes(42, 5, (2, 3, 25)):
            self.assertEqual(to_cord(tube, cord(tube)), ())

    def test_refusals_in_their_order(self):
        tube, row = tied([(0, 0), (1, 2), (0, 0)]), nums((0, 2, 0))
        self.assertEqual(to_cord(tube, row), ((0, 1, ONE),))
        loose = (tube[0], tube[1], tube[1])
        for thing in list(spoilt(tube)) + strange() + [loose, loose[::-1], tube[:1]]:
            for other in (row, None, (), nums((0, 3, 0))):
                refused(NoTube, to_cord, thing, other)
        for thing in list(spoilt(row)) + no_rows() + [nums((0, 3, 0)), nums((0, 2, 1)), row[:2], row + row[:1]]:
            refused(NoRow, to_cord, tube, thing)


class TestBetween(unittest.TestCase):
    def asked(self, other, given):
        told = between(other, given)
        if some_lead(other, given):
            self.assertIs(told.__class__, tuple)
            self.assertLessEqual(len(told), 2 * len(given))
            self.assertEqual(levelled(other, told), given)
            self.assertEqual(walked_by_words(other, told), given)
        else:
            self.assertIsNone(told)

    def test_plain_ones(self):
        self.assertEqual(between((ONE,), (ONE,)), ())
        self.assertIsNone(between((ONE,), (TWO,)))
        self.assertEqual(between(nums((3, 1)), nums((2, 2))), ((0, 1, ONE),))
        self.assertIsNone(between(nums((2, 2)), nums((3, 1))))
        self.assertIsNone(between(nums((4, 1)), nums((2, 2))))
        self.assertIsNone(between(nums((3, 1)), nums((2, 3))))
        self.assertEqual(between(nums((3, 1)), nums((1, 3))), ((0, 1, TWO),))

    def test_all_small_ones(self):
        for many in (1, 2, 3):
            for both in product(range(-1, 4), repeat=2 * many):
                self.asked(nums(both[:many]), nums(both[many:]))

    def test_in_another_order(self):
        for given in ((0, 1, 2, 3), (0, 0, 1, 1), (2, 2, 2, 2), (5, -5, 0, 5)):
            for other in permutations(given):
                self.assertIsNotNone(between(nums(given), nums(other)))
                self.asked(nums(given), nums(other))

    def test_drawn_ones(self):
        source = drawn(43)
        for draw in (small_number, great_number):
            for many in list(range(1, 25)) * 2:
                other = tuple(draw(source) for k in range(many))
                heights = fracs(other)
                for k in range(many):
                    one, two = source.randrange(many), source.randrange(many)
                    amount = (heights[one] - heights[two]) * Fraction(source.randint(0, 4), 4)
                    heights[one] -= amount
                    heights[two] += amount
                given = nums(heights)
                self.assertIsNotNone(between(other, given))
                self.asked(other, given)
                self.asked(given, other)
                self.asked(other, tuple(draw(source) for k in range(many)))

    def test_between_rows_of_a_tube(self):
        source = drawn(44)
        for tube in drawn_tubes(44, 5, (3, 5, 25)):
            rows = drawn_rows(source, tube, 2)
            for one, other in product(rows, rows):
                self.asked(steps(one), steps(other))

    def test_no_row(self):
        for thing in list(spoilt(GIVEN)) + no_rows() + [(), (ONE,) * 25]:
            refused(NoRow, between, thing, GIVEN)
            refused(NoRow, between, GIVEN, thing)
            refused(NoRow, between, thing, thing)

    def test_not_as_many(self):
        for one, other in product(range(1, 25), repeat=2):
            if one != other:
                refused(NoRow, between, ((0, 1),) * one, ((0, 1),) * other)
            else:
                self.assertEqual(between((HALF,) * one, (HALF,) * one), ())

    def test_the_row_s_first_number_has_no_say(self):
        row = row_of(HALF, GIVEN)
        self.assertEqual(between(steps(row), GIVEN), ())
