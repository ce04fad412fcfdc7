import unittest
from fractions import Fraction
from itertools import product

from levelcord.cords import cord
from levelcord.errors import NoNeeds, NoRoom
from levelcord.measures import squares, worth
from levelcord.stores import bought, store_tube
from levelcord.tubes import is_tied, row_of, steps
from tests.helper import (
    drawn, drawn_measure, drawn_rows, drawn_stores, frac, fracs, no_numbers, no_rows, num, nums, refused, spoilt,
    steps_of,
)

NEEDS = nums((3, 0, Fraction(1, 2)))
ROOMS = nums((0, Fraction(1, 10 ** 6), Fraction(1, 3), 1, 7, 10 ** 9))


def stored(needs, plan):
    """What is stored behind each time."""
    left, told = Fraction(0), []
    for need, much in zip(fracs(needs), fracs(plan), strict=True):
        left += much - need
        told.append(left)
    return told


class TestStoreTube(unittest.TestCase):
    def test_plain_ones(self):
        self.assertEqual(store_tube(nums((5,)), (2, 1)), (nums((0, 0)), nums((5, 5))))
        self.assertEqual(store_tube(NEEDS, (1, 3)), (
            nums((0, 0)), ((3, 1), (10, 3)), ((3, 1), (10, 3)), ((7, 2), (7, 2))))

    def test_by_words(self):
        for needs, room in drawn_stores(110, 3, range(1, 25)):
            tube = store_tube(needs, room)
            self.assertEqual(len(tube), len(needs) + 1)
            self.assertIs(is_tied(tube), True)
            for at, place in enumerate(tube):
                used = sum(fracs(needs[:at]))
                more = frac(room) if 0 < at < len(needs) else 0
                self.assertEqual(place, nums((used, used + more)))


class TestBought(unittest.TestCase):
    def test_plain_ones(self):
        self.assertEqual(bought(nums((5,)), (2, 1)), nums((5,)))
        self.assertEqual(bought(nums((1, 5, 0, 2)), (2, 1)), nums((3, 3, 1, 1)))
        self.assertEqual(bought(nums((1, 5, 0, 2)), (9, 1)), nums((3, 3, 1, 1)))
        self.assertEqual(bought(nums((0, 0, 6)), (9, 1)), nums((2, 2, 2)))
        self.assertEqual(bought(nums((0, 0, 6)), (1, 1)), nums((Fraction(1, 2), Fraction(1, 2), 5)))
        self.assertEqual(bought(nums((6, 0, 0)), (9, 1)), nums((6, 0, 0)))

    def test_by_words(self):
        for needs, room in drawn_stores(111, 4, range(1, 25)):
            plan = bought(needs, room)
            self.assertIs(plan.__class__, tuple)
            self.assertEqual(plan, steps(cord(store_tube(needs, room))))
            self.assertTrue(all(much >= 0 for much in fracs(plan)))
            left = stored(needs, plan)
            self.assertTrue(all(0 <= one <= frac(room) for one in left))
            self.assertEqual(left[-1], 0)

    def test_without_room_what_is_needed(self):
        for needs, room in drawn_stores(112, 3, range(1, 25)):
            self.assertEqual(bought(needs, (0, 1)), needs)

    def test_nothing_is_needed(self):
        for many in range(1, 25):
            for room in ROOMS:
                self.assertEqual(bought(((0, 1),) * many, room), ((0, 1),) * many)

    def test_no_other_plan_tried_is_worth_less(self):
        source = drawn(113)
        for needs, room in drawn_stores(113, 5, (1, 2, 3, 5, 9, 24)):
            row = row_of((0, 1), bought(needs, room))
            for other in drawn_rows(source, store_tube(needs, room), 3):
                left = stored(needs, steps(other))
                self.assertTrue(all(0 <= one <= frac(room) for one in left) and left[-1] == 0)
                if other != row:
                    self.assertGreater(frac(squares(other)), frac(squares(row)))
                for k in range(3):
                    measure = drawn_measure(source, steps_of(source.choice((row, other))))
                    self.assertLessEqual(frac(worth(measure, row)), frac(worth(measure, other)))

    def test_against_all_plans_of_sixths(self):
        for needs in product(range(3), repeat=3):
            for room in (0, 1, 2):
                best = None
                for one, other in product(range(37), repeat=2):
                    plan = nums((Fraction(one, 6), Fraction(other, 6), sum(needs) - Fraction(one + other, 6)))
                    if all(0 <= left <= room for left in stored(nums(needs), plan)):
                        cost = sum(much * much for much in fracs(plan))
                        best = min(best or (cost, plan), (cost, plan))
                self.assertEqual(bought(nums(needs), num(room)), best[1])


class TestRefusals(unittest.TestCase):
    def test_lengths(self):
        for many in range(30):
            needs = ((1, 2),) * many
            if 1 <= many <= 24:
                self.assertEqual(bought(needs, (1, 1)), needs)
                self.assertEqual(len(store_tube(needs, (1, 1))), many + 1)
            else:
                refused(NoNeeds, bought, needs, (1, 1))
                refused(NoNeeds, store_tube, needs, (1, 1))

    def test_no_needs_ahead_of_no_room(self):
        below = [NEEDS[:at] + ((-1, 10 ** 6),) + NEEDS[at:] for at in range(4)]
        for needs in list(spoilt(NEEDS)) + no_rows() + below + [(), NEEDS * 9, nums((-1,))]:
            for room in ((1, 1), (-1, 1), None, []):
                refused(NoNeeds, store_tube, needs, room)
                refused(NoNeeds, bought, needs, room)

    def test_no_room(self):
        for room in ROOMS:
            self.assertEqual(len(bought(NEEDS, room)), 3)
        for room in no_numbers() + [(-1, 1), (-1, 10 ** 6), (-10 ** 9, 1)]:
            refused(NoRoom, store_tube, NEEDS, room)
            refused(NoRoom, bought, NEEDS, room)
