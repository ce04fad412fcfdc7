import unittest
from fractions import Fraction
from itertools import product

from levelcord.cords import cord
from levelcord.errors import NoMeasure, NoRow
from levelcord.measures import greatest_sums, is_least_at_nought, is_measure, squares, worth
from tests.helper import (
    drawn, drawn_measure, drawn_rows, drawn_tubes, frac, fracs, no_numbers, no_rows, num, nums, refused, spoilt,
    steps_of, strange,
)

NOUGHT, ONE, HALF, LESS = (0, 1), (1, 1), (1, 2), (-1, 2)
PLAIN = (("above", NOUGHT, ONE), ("below", LESS, HALF))
ROW = nums((0, 3, 2, 2, Fraction(1, 2)))


def worth_by_words(measure, row):
    together = Fraction(0)
    for step in steps_of(row):
        for side, point, weight in measure:
            over = step - frac(point) if side == "above" else frac(point) - step
            together += frac(weight) * max(over, 0)
    return num(together)


class TestMeasures(unittest.TestCase):
    def test_measures(self):
        for thing in (PLAIN, PLAIN[:1], PLAIN[1:], PLAIN * 3, (("below", (-10 ** 9, 1), (1, 10 ** 6)),)):
            self.assertIs(is_measure(thing), True)

    def test_one_to_six_parts(self):
        for many in range(10):
            thing = PLAIN[:1] * many
            self.assertIs(is_measure(thing), 1 <= many <= 6)
            if not 1 <= many <= 6:
                refused(NoMeasure, worth, thing, ROW)
                refused(NoMeasure, is_least_at_nought, thing)

    def wrong(self):
        sides = ("Above", "above ", "", "up", b"above", None, 1, ["above"], ("above",), "abovebelow")
        wrong = [((side, NOUGHT, ONE),) for side in sides]
        wrong += [(("above", NOUGHT, weight),) for weight in [NOUGHT, LESS, (-1, 1)] + no_numbers()]
        wrong += [(("above", point, ONE),) for point in no_numbers()]
        wrong += [PLAIN[0], ("above", "below"), (("above", ONE),), (("above", ONE, ONE, ONE),), (PLAIN,)]
        return wrong + list(spoilt(PLAIN)) + strange() + [PLAIN + (("above", NOUGHT, NOUGHT),)]

    def test_what_is_none(self):
        for thing in self.wrong():
            self.assertIs(is_measure(thing), False, repr(thing))
            refused(NoMeasure, is_least_at_nought, thing)

    def test_no_measure_is_refused_ahead_of_no_row(self):
        for thing in self.wrong():
            for row in (ROW, (), None):
                refused(NoMeasure, worth, thing, row)
        for row in list(spoilt(ROW)) + no_rows() + [ROW[:1], ROW[:1] * 26]:
            refused(NoRow, worth, PLAIN, row)

    def test_worth(self):
        self.assertEqual(worth(PLAIN, nums((0, 3))), (3, 1))
        self.assertEqual(worth((("above", ONE, (2, 1)),), ROW), (4, 1))
        self.assertEqual(worth((("below", ONE, (2, 1)),), ROW), (11, 1))
        self.assertEqual(worth(PLAIN, ROW), (15, 4))
        self.assertEqual(worth((("above", (3, 1), ONE), ("below", (-3, 2), ONE)), ROW), NOUGHT)
        self.assertEqual(worth(PLAIN[:1] * 6, nums((0, 1))), (6, 1))

    def test_worth_by_drawn_measures(self):
        source = drawn(30)
        for tube in drawn_tubes(30, 8, (2, 3, 6, 25)):
            for row in drawn_rows(source, tube, 2):
                measure = drawn_measure(source, steps_of(row))
                self.assertEqual(worth(measure, row), worth_by_words(measure, row))

    def test_least_at_nought(self):
        points = (NOUGHT, ONE, (-1, 1), HALF, LESS, (10 ** 9, 1), (-1, 10 ** 6))
        for point in points:
            self.assertIs(is_least_at_nought((("above", point, ONE),)), frac(point) >= 0)
            self.assertIs(is_least_at_nought((("below", point, ONE),)), frac(point) <= 0)
        for above, below in product(points, points):
            for measure in ((("above", above, ONE), ("below", below, HALF)), (("below", below, ONE), ("above", above, ONE))):
                self.assertIs(is_least_at_nought(measure), frac(above) >= 0 and frac(below) <= 0)


class TestSums(unittest.TestCase):
    def test_greatest_sums(self):
        self.assertEqual(greatest_sums(nums((0, 3))), list(nums((3,))))
        self.assertEqual(greatest_sums(ROW), list(nums((3, 3, 2, Fraction(1, 2)))))
        self.assertEqual(greatest_sums(nums((0, 1, 3, 6))), list(nums((3, 5, 6))))
        self.assertIs(greatest_sums(ROW).__class__, list)

    def test_squares(self):
        self.assertEqual(squares(nums((0, 3))), (9, 1))
        self.assertEqual(squares(ROW), (49, 4))
        self.assertEqual(squares(nums((4, 4, 4))), NOUGHT)

    def test_by_words(self):
        source = drawn(31)
        for tube in drawn_tubes(31, 8, (2, 3, 6, 25)):
            for row in drawn_rows(source, tube, 2):
                climbs = sorted(steps_of(row), reverse=True)
                self.assertEqual(greatest_sums(row), [num(sum(climbs[:k])) for k in range(1, len(row))])
                self.assertEqual(squares(row), num(sum(step * step for step in climbs)))

    def test_lengths(self):
        for many in range(30):
            row = nums(range(many))
            for call in (greatest_sums, squares):
                if 2 <= many <= 25:
                    call(row)
                else:
                    refused(NoRow, call, row)

    def test_what_is_no_row_is_refused(self):
        for thing in list(spoilt(ROW)) + no_rows():
            refused(NoRow, greatest_sums, thing)
            refused(NoRow, squares, thing)


class TestOfTheCord(unittest.TestCase):
    def test_no_row_is_more_level(self):
        source = drawn(32)
        for tube in drawn_tubes(32, 12, (2, 3, 5, 9, 25)):
            row = cord(tube)
            sums, square = fracs(greatest_sums(row)), frac(squares(row))
            for other in drawn_rows(source, tube, 3):
                self.assertTrue(all(one <= more for one, more in zip(sums, fracs(greatest_sums(other)))))
                if other == row:
                    self.assertEqual(frac(squares(other)), square)
                else:
                    self.assertGreater(frac(squares(other)), square)
                for k in range(3):
                    measure = drawn_measure(source, steps_of(source.choice((row, other))))
                    self.assertLessEqual(frac(worth(measure, row)), frac(worth(measure, other)))
