"""What is promised over the whole program, of drawn things, long ones among them."""

import unittest
from fractions import Fraction

from levelcord.checker import holds
from levelcord.cords import bends, cord, is_taut
from levelcord.cordtexts import read_jobs, read_row, read_tube, show_jobs, show_row, show_tube
from levelcord.desk import Desk
from levelcord.funnels import Funnel
from levelcord.jobs import job_tube, speeds
from levelcord.levellings import levelled, to_cord
from levelcord.looseends import is_loosely_taut, loose_cord
from levelcord.measures import greatest_sums, squares, worth
from levelcord.papers import (
    paper_done, paper_loose, paper_ring, paper_settled, paper_smooth, paper_speeds, paper_stair, paper_steps, paper_store,
    paper_taut,
)
from levelcord.rings import is_ring_taut, ring_cord
from levelcord.smoothing import costs, smoothed, tube_of
from levelcord.stairs import at_price, stair
from levelcord.stores import bought, store_tube
from levelcord.tubes import row_of, steps
from tests.helper import (
    KINDS, all_jobs, drawn, drawn_bounds, drawn_data, drawn_jobs, drawn_measure, drawn_measure_at_nought, drawn_open_tubes,
    drawn_places, drawn_price, drawn_rows, drawn_stores, drawn_tubes, frac, fracs, nums, num, open_tube, steps_of,
)

SIZES = (2, 3, 4, 7, 13, 24, 25, 25)
NONE = (0, 1)


class Whole(unittest.TestCase):
    def accepted(self, told, word):
        claim, paper = told
        self.assertEqual(claim[0], word)
        self.assertIs(holds(claim, paper), True, repr(told))

    def most_level(self, source, tube, row, others):
        """Checks that no other row of a tied tube is worth less than its cord by any measure tried."""
        for other in others:
            if other != row:
                self.assertGreater(frac(squares(other)), frac(squares(row)))
            for k in range(3):
                measure = drawn_measure(source, steps_of(source.choice((row, other))))
                self.assertLessEqual(frac(worth(measure, row)), frac(worth(measure, other)))


class TestCords(Whole):
    def test_tied_tubes(self):
        source = drawn(240)
        for tube in drawn_tubes(240, 8, SIZES):
            best = cord(tube)
            self.assertIs(is_taut(tube, best), True)
            others = drawn_rows(source, tube, 2)
            self.most_level(source, tube, best, others)
            self.accepted(paper_taut(tube, best), "taut")
            for row in others:
                walk = to_cord(tube, row)
                self.assertLessEqual(len(walk), 2 * (len(tube) - 1))
                self.assertEqual(levelled(steps(row), walk), steps(best))
                self.assertTrue(all(frac(one) <= frac(other) for one, other in zip(greatest_sums(best), greatest_sums(row))))
                self.assertIs(is_taut(tube, row), row == best)
                self.accepted(paper_taut(tube, row), "taut" if row == best else "not taut")
                self.accepted((("leveller", steps(best), steps(row)), walk), "leveller")
                self.accepted(paper_steps(steps(best), steps(row)), "leveller")
                back = paper_steps(steps(row), steps(best))
                self.accepted(back, back[0][0])

    def test_loose_ends_and_rings(self):
        source = drawn(241)
        for tube in drawn_open_tubes(241, 8, SIZES):
            loose = loose_cord(tube)
            self.assertIs(is_loosely_taut(tube, loose), True)
            self.accepted(paper_loose(tube), "loose")
            for other in drawn_rows(source, tube, 2):
                measure = drawn_measure_at_nought(source, steps_of(source.choice((loose, other))))
                self.assertLessEqual(frac(worth(measure, loose)), frac(worth(measure, other)))
            if 3 <= len(tube) <= 24:
                ring = ring_cord(tube)
                self.assertIs(is_ring_taut(tube, ring), True)
                self.accepted(paper_ring(tube), "ring")
                for other in drawn_rows(source, tube, 2):
                    measure = drawn_measure(source, steps_of(source.choice((ring, other))))
                    self.assertLessEqual(
                        frac(worth(measure, ring + ring[:1])), frac(worth(measure, other + other[:1])))


class TestData(Whole):
    def test_smoothed_and_stairs(self):
        source = drawn(242)
        for many in (1, 2, 3, 6, 12, 23, 24, 24):
            for k in range(3):
                data = drawn_data(source, many)
                told = stair(data)
                self.accepted(paper_stair(data), "stair")
                last = num(frac(told[-1][0]) + 1)
                for price in [drawn_price(source, data), NONE, last] + [price for price, row in told][:6]:
                    row = smoothed(data, price)
                    self.assertEqual(row, steps(cord(tube_of(data, price))))
                    self.assertEqual(row, at_price(told, price))
                    self.accepted(paper_smooth(data, price), "smooth")
                    for other in (data, told[-1][1], smoothed(data, num(frac(price) + 1)), self.shaken(source, row)):
                        if other == row:
                            continue
                        self.assertGreater(frac(costs(data, price, other)), frac(costs(data, price, row)))
                self.never_part(data, told)

    def shaken(self, source, row):
        return nums(one + Fraction(source.randint(-1, 1), source.randint(1, 9)) for one in fracs(row))

    def never_part(self, data, told):
        prices = sorted({frac(price) * share for price, row in told for share in (1, Fraction(1, 2), Fraction(4, 3))})
        rows = [at_price(told, num(price)) for price in prices]
        for row, later in zip(rows, rows[1:]):
            for at in range(1, len(data)):
                self.assertTrue(row[at] != row[at - 1] or later[at] == later[at - 1])


class TestSettled(Whole):
    def test_on_the_cord_whatever_comes(self):
        source = drawn(243)
        some = 0
        for places in drawn_places(243, 5, (3, 4, 7, 13, 24)):
            funnel = Funnel(places[0][0])
            for low, high in places[1:]:
                funnel.put(low, high)
                told = paper_settled(funnel)
                self.accepted(told, "settled")
            touches = funnel.settled()
            for low, high in open_tube(drawn_bounds(source, source.randint(1, 4), source.choice(KINDS)))[:25 - len(places)]:
                funnel.put(low, high)
            self.accepted(paper_settled(funnel), "settled")
            for end in funnel.tube()[-1]:
                row = funnel.cord_to(end)
                bent = [place for place, way in bends(row)]
                self.accepted(paper_taut(funnel.tube()[:-1] + ((end, end),), row), "taut")
                for place, height in touches:
                    some += 1
                    self.assertEqual(row[place], height)
                    self.assertIn(place, bent)
        self.assertGreater(some, 100)


class TestStoresAndJobs(Whole):
    def test_stores(self):
        source = drawn(244)
        for needs, room in drawn_stores(244, 2, (1, 2, 3, 6, 12, 24, 24)):
            tube = store_tube(needs, room)
            row = row_of(NONE, bought(needs, room))
            self.most_level(source, tube, row, drawn_rows(source, tube, 2))
            self.accepted(paper_store(needs, room), "store")
            self.accepted(paper_taut(tube, row), "taut")

    def test_jobs(self):
        source = drawn(245)
        for jobs in list(all_jobs(245, 1)) + [drawn_jobs(source, 12, 24) for k in range(6)]:
            tube = job_tube(jobs)
            row = row_of(NONE, speeds(jobs))
            self.most_level(source, tube, row, drawn_rows(source, tube, 2))
            self.accepted(paper_speeds(jobs), "speeds")
            self.accepted(paper_done(jobs), "done")
            self.assertEqual(read_jobs(show_jobs(jobs)), jobs)


class TestDesk(Whole):
    def test_whatever_it_answers_holds(self):
        source = drawn(246)
        for tube in drawn_tubes(246, 2, (3, 13, 24)):
            desk = Desk()
            desk.say(f"tube t {show_tube(tube)}")
            self.assertEqual(read_tube(desk.say("show t")), tube)
            data = drawn_data(source, len(tube))
            desk.say(f"data d {show_row(data)}")
            for row, wanted in (("cord t", cord(tube)), ("loose t", loose_cord(tube)), ("ring t", ring_cord(tube)),
                                ("smooth d 1/2", smoothed(data, (1, 2))), ("stair d", tuple(one for one, row in stair(data)))):
                self.assertEqual(read_row(desk.say(row)), wanted)
                self.assertEqual(desk.say("paper"), "holds")
