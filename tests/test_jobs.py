import unittest
from fractions import Fraction
from itertools import product

from levelcord.cords import cord
from levelcord.errors import NoJobs
from levelcord.jobs import is_jobs, job_tube, parts, speeds
from levelcord.measures import squares, worth
from levelcord.numbers import is_number
from levelcord.tubes import is_tied, row_of, steps
from tests.helper import (
    all_jobs, drawn, drawn_measure, drawn_rows, frac, fracs, no_numbers, nums, refused, spoilt, steps_of, strange,
)

ONE, HALF = (1, 1), (1, 2)
JOBS = ((0, 2, (4, 1)), (1, 5, (1, 1)), (3, 5, (3, 1)))


def no_jobs():
    wrong = list(spoilt(JOBS)) + strange() + no_numbers() + [(), JOBS[0], (JOBS,), JOBS[:1] * 13, JOBS[::-1]]
    wrong += [((-1, 2, ONE),), ((0, 25, ONE),), ((24, 25, ONE),), ((2, 2, ONE),), ((3, 2, ONE),), ((0, 0, ONE),)]
    wrong += [((0, 2, work),) for work in no_numbers() + [(0, 1), (-1, 1), (-1, 10 ** 6)]]
    wrong += [((1, 3, ONE), (0, 3, ONE)), ((0, 3, ONE), (0, 2, ONE)), ((0, 3, ONE), (1, 2, ONE))]
    wrong += [((0, 1, ONE),) * 10 + ((0, 2, ONE), (0, 1, ONE))]
    wrong += [((0, 2), ONE), ((0, 2, ONE, ONE),), (((0, 1), (2, 1), ONE),), ((0, 2, 1),), (("0", "2", ONE),)]
    return wrong


class TestIsJobs(unittest.TestCase):
    def test_jobs(self):
        for thing in (JOBS, JOBS[:1], ((0, 24, HALF),), ((23, 24, HALF),), ((0, 1, ONE),) * 12):
            self.assertIs(is_jobs(thing), True)
        for jobs in all_jobs(120, 10):
            self.assertIs(is_jobs(jobs), True)

    def test_one_to_twelve(self):
        for many in range(20):
            self.assertIs(is_jobs(((1, 3, HALF),) * many), 1 <= many <= 12)

    def test_hours(self):
        for arrival, due in product(range(-2, 28), repeat=2):
            self.assertIs(is_jobs(((arrival, due, ONE),)), 0 <= arrival < due <= 24)

    def test_neither_arrivals_nor_dues_fall(self):
        hours = [(arrival, due) for arrival, due in product(range(4), range(5)) if arrival < due]
        for one, other in product(hours, hours):
            jobs = ((one[0], one[1], ONE), (other[0], other[1], HALF))
            self.assertIs(is_jobs(jobs), one[0] <= other[0] and one[1] <= other[1])
            self.assertIs(is_jobs(jobs[:1] * 6 + jobs[1:] * 6), one[0] <= other[0] and one[1] <= other[1])

    def test_what_is_none(self):
        for thing in no_jobs():
            self.assertIs(is_jobs(thing), False, repr(thing))
            for call in (job_tube, speeds, parts):
                refused(NoJobs, call, thing)


class TestSpeeds(unittest.TestCase):
    def test_plain_ones(self):
        self.assertEqual(job_tube(((0, 1, HALF),)), (nums((0, 0)), (HALF, HALF)))
        self.assertEqual(speeds(((0, 1, HALF),)), (HALF,))
        self.assertEqual(job_tube(JOBS), (
            nums((0, 0)), nums((0, 4)), nums((4, 5)), nums((4, 5)), nums((4, 8)), nums((8, 8))))
        self.assertEqual(speeds(JOBS), nums((2, 2, 1, Fraction(3, 2), Fraction(3, 2))))
        self.assertEqual(speeds(((2, 4, ONE),)), nums((0, 0, Fraction(1, 2), Fraction(1, 2))))
        self.assertEqual(speeds(((0, 1, ONE), (3, 4, ONE))), nums((1, 0, 0, 1)))

    def test_the_tube_by_words(self):
        for jobs in all_jobs(121, 6):
            tube = job_tube(jobs)
            self.assertIs(is_tied(tube), True)
            self.assertEqual(len(tube), jobs[-1][1] + 1)
            for hour, place in enumerate(tube):
                self.assertEqual(place, nums((sum(frac(work) for arrival, due, work in jobs if due <= hour),
                                              sum(frac(work) for arrival, due, work in jobs if arrival < hour))))

    def test_the_steps_of_the_cord(self):
        for jobs in all_jobs(122, 6):
            told = speeds(jobs)
            self.assertIs(told.__class__, tuple)
            self.assertEqual(len(told), jobs[-1][1])
            self.assertEqual(told, steps(cord(job_tube(jobs))))
            self.assertTrue(all(speed >= 0 for speed in fracs(told)))
            self.assertEqual(sum(fracs(told)), sum(frac(work) for arrival, due, work in jobs))

    def test_no_other_speeds_tried_are_worth_less(self):
        source = drawn(123)
        for jobs in all_jobs(123, 3):
            row = row_of((0, 1), speeds(jobs))
            for other in drawn_rows(source, job_tube(jobs), 3):
                if other != row:
                    self.assertGreater(frac(squares(other)), frac(squares(row)))
                for k in range(3):
                    measure = drawn_measure(source, steps_of(source.choice((row, other))))
                    self.assertLessEqual(frac(worth(measure, row)), frac(worth(measure, other)))


class TestParts(unittest.TestCase):
    def test_plain_ones(self):
        self.assertEqual(parts(((0, 1, HALF),)), (((0, HALF),),))
        self.assertEqual(parts(JOBS), (((0, (2, 1)), (1, (2, 1))), ((2, (1, 1)),), ((3, (3, 2)), (4, (3, 2)))))
        self.assertEqual(parts(((0, 1, HALF), (0, 1, ONE))), (((0, HALF),), ((0, ONE),)))
        self.assertEqual(parts(((0, 3, ONE), (0, 3, (2, 1)), (0, 3, (3, 1)))), (
            ((0, ONE),), ((0, ONE), (1, ONE)), ((1, ONE), (2, (2, 1)))))
        self.assertEqual(parts(((5, 7, ONE),)), (((5, HALF), (6, HALF)),))

    def check(self, jobs):
        told, speed = parts(jobs), fracs(speeds(jobs))
        self.assertIs(told.__class__, tuple)
        self.assertEqual(len(told), len(jobs))
        done, last = [Fraction(0)] * len(speed), 0
        for (arrival, due, work), own in zip(jobs, told):
            self.assertIs(own.__class__, tuple)
            self.assertEqual(sum(frac(part) for stretch, part in own), frac(work))
            hours = [stretch for stretch, part in own]
            self.assertEqual(hours, sorted(set(hours)))
            # one behind the other: a job begins no earlier than where the one ahead ended
            self.assertGreaterEqual(hours[0], last)
            last = hours[-1]
            for stretch, part in own:
                self.assertIs(stretch.__class__, int)
                self.assertTrue(is_number(part) and part[0] > 0)
                self.assertTrue(arrival <= stretch and stretch + 1 <= due)
                done[stretch] += frac(part)
        self.assertEqual(done, speed)

    def test_by_words(self):
        for jobs in all_jobs(124, 15):
            self.check(jobs)

    def test_all_small_ones(self):
        hours = [(arrival, due) for arrival, due in product(range(3), range(4)) if arrival < due]
        for one, other, third in product(hours, repeat=3):
            jobs = ((one[0], one[1], ONE), (other[0], other[1], HALF), (third[0], third[1], (5, 3)))
            if is_jobs(jobs):
                self.check(jobs)
