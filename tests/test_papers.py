import unittest
from fractions import Fraction

from levelcord.checker import holds
from levelcord.cords import cord
from levelcord.errors import NoData, NoJobs, NoNeeds, NoPrice, NoRoom, NoRow, NoTube
from levelcord.funnels import Funnel
from levelcord.jobs import parts, speeds
from levelcord.levellings import between
from levelcord.looseends import loose_cord
from levelcord.papers import (
    paper_done, paper_loose, paper_ring, paper_settled, paper_smooth, paper_speeds, paper_stair, paper_steps, paper_store,
    paper_taut,
)
from levelcord.rings import ring_cord
from levelcord.smoothing import smoothed
from levelcord.stairs import stair
from levelcord.stores import bought
from levelcord.tubes import steps
from tests.helper import (
    WORDS, all_jobs, drawn, drawn_data, drawn_open_tubes, drawn_places, drawn_price, drawn_rows, drawn_stores, drawn_tubes,
    frac, is_num, least_level, no_numbers, no_rows, num, nums, put_otherwise, refused, spoilt, strange, surely_holds,
    tied, touches_and_places,
)

ONE, TWO = (1, 1), (2, 1)
TUBE = tied([(0, 0), (1, 2), (0, Fraction(1, 2)), (3, 3)])
ROW = nums((0, 2, 0, 3))
JOBS = ((0, 2, (4, 1)), (1, 5, (1, 1)), (3, 5, (3, 1)))
NEEDS = nums((1, 5, 0, 2))


def numbers_otherwise(thing):
    """The thing with one of its numbers a little more or less."""
    if is_num(thing):
        yield from (num(frac(thing) + little) for little in (1, Fraction(-1, 2), Fraction(1, 3)))
    elif isinstance(thing, tuple):
        for at, part in enumerate(thing):
            for other in numbers_otherwise(part):
                yield thing[:at] + (other,) + thing[at + 1:]


class Papers(unittest.TestCase):
    def claimed(self, told, claim):
        """Checks that just this claim is told, with a paper by which the checker takes it; tells the paper."""
        self.assertIs(told.__class__, tuple)
        self.assertEqual(len(told), 2)
        self.assertEqual(repr(told[0]), repr(claim))
        self.assertIs(holds(*told), True, repr(told))
        self.assertIs(surely_holds(*told), True, repr(told))
        return told[1]

    def nothing_else(self, told, most=60):
        """Checks that the same paper doesn't serve another word, or another claim, but where that one is so, too."""
        claim, paper = told
        for word in WORDS:
            other = (word,) + claim[1:]
            self.assertIs(holds(other, paper), surely_holds(other, paper), repr(other))
        told_part = claim[-1]
        if claim[0] not in ("settled", "leveller", "no leveller", "not taut"):
            for other in list(numbers_otherwise(told_part))[:most]:
                self.assertIs(holds(claim[:-1] + (other,), paper), False)
        others = list(numbers_otherwise(claim))
        for other in drawn(len(others)).sample(others, min(len(others), most)):
            self.assertIs(holds(other, paper), surely_holds(other, paper), repr(other))


class TestTaut(Papers):
    def test_the_cord_and_other_rows(self):
        source = drawn(200)
        for tube in drawn_tubes(200, 8, (2, 3, 4, 9, 25)):
            for row in drawn_rows(source, tube, 2) + [cord(tube)]:
                told = paper_taut(tube, row)
                if row == cord(tube):
                    self.assertIsNone(self.claimed(told, ("taut", tube, row)))
                else:
                    self.claimed(told, ("not taut", tube, row))
                self.nothing_else(told, 20)

    def test_refusals(self):
        for thing in list(spoilt(TUBE)) + strange() + [TUBE[:3], TUBE[1:], TUBE[:1], TUBE * 7, (nums((0, 1)),) + TUBE[1:]]:
            for row in (ROW, None, [1], ROW[:2]):
                refused(NoTube, paper_taut, thing, row)
        for row in list(spoilt(ROW)) + no_rows() + [ROW[:3], ROW + ROW[:1], nums((0, 0, 0, 3)), nums((1, 2, 0, 3)), ()]:
            refused(NoRow, paper_taut, TUBE, row)


class TestLooseAndRing(Papers):
    def test_what_the_functions_tell(self):
        level = 0
        for tube in drawn_open_tubes(201, 8, (2, 3, 4, 9, 24, 25)):
            self.assertIsNone(self.claimed(paper_loose(tube), ("loose", tube, loose_cord(tube))))
            self.nothing_else(paper_loose(tube), 20)
            level += least_level(tube) is not None
            if 3 <= len(tube) <= 24:
                self.assertIsNone(self.claimed(paper_ring(tube), ("ring", tube, ring_cord(tube))))
                self.nothing_else(paper_ring(tube), 20)
            else:
                refused(NoTube, paper_ring, tube)
        self.assertGreater(level, 3)

    def test_refusals(self):
        for thing in list(spoilt(TUBE)) + strange() + [TUBE[:1], TUBE * 7, ()]:
            refused(NoTube, paper_loose, thing)
            refused(NoTube, paper_ring, thing)
        for many in (2, 25):
            refused(NoTube, paper_ring, TUBE[:1] * many)


class TestSteps(Papers):
    def test_all_three_papers(self):
        given, other = nums((3, 2, 1)), nums((5, 1, 0))
        paper = self.claimed(paper_steps(given, other), ("leveller", given, other))
        self.assertIs(paper.__class__, tuple)
        self.assertEqual(self.claimed(paper_steps(other, given), ("no leveller", other, given)), 1)
        less = nums((3, 1, 1))
        self.assertIsNone(self.claimed(paper_steps(less, other), ("no leveller", less, other)))
        self.assertEqual(self.claimed(paper_steps(given, given), ("leveller", given, given)), ())
        self.assertIn(paper_steps((TWO,), (ONE,)), [(("no leveller", (TWO,), (ONE,)), paper) for paper in (1, None)])

    def test_drawn_ones(self):
        source = drawn(202)
        kinds = []
        for k in range(300):
            many = source.choice((1, 2, 3, 4, 12, 24))
            given, other = (nums(source.randint(-2, 2) for k in range(many)) for k in range(2))
            if source.random() < 0.3:
                other = tuple(source.sample(given, many))
            told = paper_steps(given, other)
            walk = between(other, given)
            word = "no leveller" if walk is None else "leveller"
            paper = self.claimed(told, (word, given, other))
            self.nothing_else(told, 10)
            kinds.append((word, paper.__class__))
        self.assertEqual(set(kinds), {("leveller", tuple), ("no leveller", int), ("no leveller", None.__class__)})
        for tube in drawn_tubes(203, 6, (2, 3, 9, 25)):
            for row in drawn_rows(source, tube, 2):
                self.claimed(paper_steps(steps(cord(tube)), steps(row)), ("leveller", steps(cord(tube)), steps(row)))

    def test_refusals(self):
        given = nums((3, 2, 1))
        for thing in list(spoilt(given)) + no_rows() + [(), (ONE,) * 25, given[:2], given + given[:1]]:
            refused(NoRow, paper_steps, thing, given)
            refused(NoRow, paper_steps, given, thing)
        refused(NoRow, paper_steps, None, None)


class TestSmoothAndStair(Papers):
    def test_what_the_functions_tell(self):
        source = drawn(204)
        for many in (1, 2, 3, 5, 11, 24):
            for k in range(4):
                data = drawn_data(source, many)
                price = drawn_price(source, data)
                told = paper_smooth(data, price)
                self.assertIsNone(self.claimed(told, ("smooth", data, price, smoothed(data, price))))
                self.nothing_else(told, 20)
                told = paper_stair(data)
                self.assertIsNone(self.claimed(told, ("stair", data, stair(data))))
                self.nothing_else(told, 10)

    def test_refusals(self):
        for thing in list(spoilt(NEEDS)) + no_rows() + [(), (ONE,) * 25]:
            refused(NoData, paper_stair, thing)
            for price in (ONE, None, (-1, 1)):
                refused(NoData, paper_smooth, thing, price)
        for price in no_numbers() + [(-1, 1), (-1, 10 ** 6)]:
            refused(NoPrice, paper_smooth, NEEDS, price)


class TestSettled(Papers):
    def test_behind_each_place(self):
        some = 0
        for places in drawn_places(205, 6, (2, 3, 4, 6, 10, 25)):
            funnel = Funnel(places[0][0])
            for many in range(2, len(places) + 1):
                funnel.put(*places[many - 1])
                told = paper_settled(funnel)
                paper = self.claimed(told, ("settled", places[:many], funnel.settled()))
                self.assertIs(paper.__class__, tuple)
                some += len(paper)
                self.assertEqual(funnel.tube(), places[:many])
            found = touches_and_places(places)
            self.assertEqual(told[0][2], tuple(touch for touch, by in found))
            self.assertTrue(all(place in by for place, (touch, by) in zip(told[1], found)))
            self.nothing_else(told, 10)
        self.assertGreater(some, 100)

    def test_no_place_told(self):
        funnel = Funnel((1, 2))
        refused(NoTube, paper_settled, funnel)
        refused(NoTube, funnel.put, None, ONE)
        refused(NoTube, paper_settled, funnel)
        funnel.put(ONE, TWO)
        self.assertEqual(paper_settled(funnel), (("settled", (((1, 2), (1, 2)), (ONE, TWO)), ()), ()))

    def test_told_papers_stay_as_they_were(self):
        funnel = Funnel((0, 1))
        funnel.put(ONE, TWO)
        first = paper_settled(funnel)
        kept = repr(first)
        funnel.put((0, 1), (1, 2))
        second = paper_settled(funnel)
        refused(NoTube, funnel.put, TWO, ONE)
        self.assertEqual(repr(first), kept)
        self.assertEqual(paper_settled(funnel), second)
        self.assertEqual(second[1], (2,))


class TestStoreAndJobs(Papers):
    def test_what_the_functions_tell(self):
        for needs, room in drawn_stores(206, 2, (1, 2, 3, 5, 11, 24)):
            told = paper_store(needs, room)
            self.assertIsNone(self.claimed(told, ("store", needs, room, bought(needs, room))))
            self.nothing_else(told, 20)
        for jobs in all_jobs(207, 2):
            told = paper_speeds(jobs)
            self.assertIsNone(self.claimed(told, ("speeds", jobs, speeds(jobs))))
            self.nothing_else(told, 20)
            told = paper_done(jobs)
            self.assertIsNone(self.claimed(told, ("done", jobs, speeds(jobs), parts(jobs))))
            self.nothing_else(told, 20)

    def test_refusals(self):
        for thing in list(spoilt(NEEDS)) + no_rows() + [(), (ONE,) * 25, NEEDS + ((-1, 1),)]:
            for room in (ONE, None, (-1, 1)):
                refused(NoNeeds, paper_store, thing, room)
        for room in no_numbers() + [(-1, 1), (-1, 10 ** 6)]:
            refused(NoRoom, paper_store, NEEDS, room)
        for thing in list(spoilt(JOBS)) + strange() + [(), JOBS[::-1], JOBS * 5, ((0, 25, ONE),), ((0, 1, (0, 1)),)]:
            refused(NoJobs, paper_speeds, thing)
            refused(NoJobs, paper_done, thing)


class TestSmallOnes(Papers):
    def test_put_otherwise_at_every_place_and_depth(self):
        funnel = Funnel((0, 1))
        for low, high in TUBE[1:]:
            funnel.put(low, high)
        for claim, paper in (
            paper_taut(TUBE, ROW), paper_taut(TUBE, cord(TUBE)), paper_loose(TUBE), paper_ring(TUBE),
            paper_steps(steps(cord(TUBE)), steps(ROW)), paper_steps(steps(ROW), steps(cord(TUBE))),
            paper_smooth(NEEDS, ONE), paper_stair(NEEDS), paper_settled(funnel), paper_store(NEEDS, TWO),
            paper_speeds(JOBS), paper_done(JOBS),
        ):
            self.assertTrue(holds(claim, paper))
            for other in put_otherwise(claim):
                self.assertIs(holds(other, paper), surely_holds(other, paper))
            for other in put_otherwise(paper):
                self.assertIs(holds(claim, other), surely_holds(claim, other))
