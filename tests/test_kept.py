"""Nothing that is handed in is changed, and what was told is the asker's own."""

import unittest
from copy import deepcopy

from levelcord.checker import holds
from levelcord.cords import bends, cord, is_taut
from levelcord.cordtexts import read_jobs, read_row, read_tube, show_jobs, show_row, show_tube
from levelcord.desk import Desk
from levelcord.errors import CordError
from levelcord.funnels import Funnel
from levelcord.jobs import is_jobs, job_tube, parts, speeds
from levelcord.levellings import between, levelled, to_cord
from levelcord.looseends import is_loosely_taut, loose_cord
from levelcord.measures import greatest_sums, is_least_at_nought, is_measure, squares, worth
from levelcord.numbers import is_number
from levelcord.numbertexts import read_number
from levelcord.papers import (
    paper_done, paper_loose, paper_ring, paper_settled, paper_smooth, paper_speeds, paper_stair, paper_steps, paper_store,
    paper_taut,
)
from levelcord.rings import is_ring, is_ring_taut, ring_cord, ring_steps
from levelcord.smoothing import costs, smoothed, tube_of
from levelcord.stairs import at_price, stair
from levelcord.stores import bought, store_tube
from levelcord.tubes import is_row, is_tied, is_tube, row_of, steps
from tests.helper import nums, spoilt, tied

TUBE = tied([(0, 0), (1, 3), (0, 1), (2, 2)])
ROW = nums((0, 3, 0, 2))
GIVEN = nums((3, -3, 2))
MEASURE = (("above", (1, 2), (1, 1)), ("below", (0, 1), (2, 1)))
WALK = ((0, 1, (1, 2)), (2, 1, (1, 1)))
NEEDS = nums((3, 0, 2))
JOBS = ((0, 2, (4, 1)), (1, 5, (1, 2)))


def put_all(begin, places, end):
    """What a new funnel tells on its way through places to an end."""
    funnel = Funnel(begin)
    told = [funnel.put(low, high) for low, high in places]
    return (tuple(told), funnel.settled(), funnel.tube(), funnel.cord_to(end))


def put_and_claimed(begin, places):
    """Claim and paper of a new funnel behind each of its places."""
    funnel = Funnel(begin)
    told = []
    for low, high in places:
        funnel.put(low, high)
        told.append(paper_settled(funnel))
    return tuple(told)


CALLS = (
    (is_number, (1, 2)), (read_number, "1/2"), (is_tube, TUBE), (is_tied, TUBE), (is_row, TUBE, ROW), (steps, ROW),
    (row_of, (1, 2), GIVEN), (cord, TUBE), (is_taut, TUBE, ROW), (bends, ROW), (is_measure, MEASURE),
    (worth, MEASURE, ROW), (is_least_at_nought, MEASURE), (greatest_sums, ROW), (squares, ROW), (levelled, GIVEN, WALK),
    (to_cord, TUBE, ROW), (between, GIVEN, nums((1, 1, 0))), (loose_cord, TUBE), (is_loosely_taut, TUBE, ROW),
    (is_ring, TUBE), (ring_steps, ROW), (ring_cord, TUBE), (is_ring_taut, TUBE, ROW), (tube_of, GIVEN, (1, 2)),
    (smoothed, GIVEN, (1, 2)), (costs, GIVEN, (1, 2), nums((1, 1, 0))), (stair, GIVEN),
    (store_tube, NEEDS, (1, 2)), (bought, NEEDS, (1, 2)), (is_jobs, JOBS), (job_tube, JOBS), (speeds, JOBS), (parts, JOBS),
    (holds, ("taut", TUBE, ROW), None), (holds, ("leveller", GIVEN, GIVEN), WALK), (paper_taut, TUBE, ROW),
    (paper_loose, TUBE), (paper_ring, TUBE), (paper_steps, GIVEN, nums((1, 1, 0))), (paper_smooth, GIVEN, (1, 2)),
    (paper_stair, GIVEN), (paper_store, NEEDS, (1, 2)), (paper_speeds, JOBS), (paper_done, JOBS),
    (read_row, "1 -1/2"), (read_tube, "0, 1..2"), (read_jobs, "0 2 4; 1 5 1/2"),
)


def answered(call, things):
    try:
        return call(*things)
    except CordError as refusal:
        return (refusal.__class__, vars(refusal))


class TestKept(unittest.TestCase):
    def test_nothing_handed_in_is_changed(self):
        for call, *things in CALLS:
            for at, thing in enumerate(things):
                for other in [thing, list(thing or ())] + list(spoilt(thing)):
                    handed = things[:at] + [other] + things[at + 1:]
                    before = deepcopy(handed)
                    first = answered(call, handed)
                    self.assertEqual(repr(handed), repr(before))
                    self.assertEqual(answered(call, before), first)

    def test_what_was_told_is_told_again(self):
        first = [answered(call, things) for call, *things in CALLS]
        for call, *things in reversed(CALLS):
            for thing in spoilt(things[0]):
                answered(call, [thing] + things[1:])
        self.assertEqual([answered(call, things) for call, *things in CALLS], first)

    def test_a_list_that_was_told_may_be_changed(self):
        told = greatest_sums(ROW)
        kept = list(told)
        told.append((9, 1))
        told[0] = None
        self.assertEqual(greatest_sums(ROW), kept)
        told.clear()
        self.assertEqual(greatest_sums(ROW), kept)

    def test_stairs_and_funnels_keep_what_they_told(self):
        told = stair(GIVEN)
        kept = deepcopy(told)
        rows = [at_price(told, price) for price in nums((0, 1, 2, 99))]
        kept_rows = deepcopy(rows)
        self.assertEqual(stair(nums((1, 2, 1)))[0][0], (0, 1))
        self.assertEqual([at_price(told, price) for price in nums((0, 1, 2, 99))], kept_rows)
        self.assertEqual((told, rows), (kept, kept_rows))
        funnel = Funnel((0, 1))
        first = (funnel.put((1, 1), (2, 1)), funnel.put((0, 1), (1, 2)), funnel.settled(), funnel.tube())
        row = funnel.cord_to((0, 1))
        kept = deepcopy((first, row))
        for low in nums((9, -9, 9)):
            funnel.put(low, low)
        self.assertEqual((first, row), kept)
        self.assertEqual(put_all((0, 1), TUBE[1:], (2, 1)), put_all((0, 1), TUBE[1:], (2, 1)))

    def test_kinds_that_are_told(self):
        for call, *things in CALLS:
            answer = call(*things)
            if call.__name__.startswith("is_") or call is holds:
                self.assertIs(answer.__class__, bool)
            elif call is greatest_sums:
                self.assertIs(answer.__class__, list)
            else:
                self.assertIs(answer.__class__, tuple)

    def test_what_is_shown_stays_as_it_was(self):
        for show, thing in ((show_row, ROW), (show_tube, TUBE), (show_jobs, JOBS)):
            before = deepcopy(thing)
            self.assertEqual(show(thing), show(before))
            self.assertEqual(repr(thing), repr(before))
            self.assertIs(show(thing).__class__, str)

    def test_claims_of_a_funnel_stay_as_they_were_told(self):
        told = put_and_claimed((0, 1), TUBE[1:])
        self.assertEqual(told, put_and_claimed((0, 1), TUBE[1:]))
        for many, (claim, paper) in enumerate(told, start=2):
            self.assertEqual(claim[1], TUBE[:many])
            self.assertIs(holds(claim, paper), True)

    def test_a_desk_takes_texts_and_keeps_its_own(self):
        rows = ("tube a 0, 1..3, 0..1, 2", "cord a", "data b 3 -3 2", "stair b", "smooth b 1/2", "paper", "show a", "show b")
        one = Desk()
        answers = [one.say(row) for row in rows]
        self.assertTrue(all(answer.__class__ is str for answer in answers))
        other = Desk()
        self.assertEqual([other.say(row) for row in rows], answers)
        self.assertEqual([one.say(row) for row in rows], answers)
