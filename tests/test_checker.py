import ast
import unittest
from copy import deepcopy
from fractions import Fraction
from itertools import product
from pathlib import Path

from levelcord import checker
from levelcord.checker import holds
from levelcord.cords import cord
from levelcord.jobs import job_tube, parts, speeds
from levelcord.levellings import between, to_cord
from levelcord.looseends import is_loosely_taut, loose_cord
from levelcord.measures import squares
from levelcord.rings import is_ring_taut, ring_cord
from levelcord.smoothing import smoothed, tube_of
from levelcord.stairs import at_price, stair
from levelcord.stores import bought, store_tube
from levelcord.tubes import steps
from tests.helper import (
    KINDS, WORDS, all_jobs, drawn, drawn_bounds, drawn_data, drawn_jobs, drawn_open_tubes, drawn_places, drawn_price,
    drawn_rows, drawn_stores, drawn_tube, drawn_tubes, frac, fracs, judge_no_leveller, least_level, no_numbers, num, nums,
    open_tube, put_otherwise, rows_of_sixths, spoilt, steps_of, strange, surely_holds, tied, touches_and_places,
)

ONE, TWO, HALF, NONE = (1, 1), (2, 1), (1, 2), (0, 1)
TUBE = tied([(0, 0), (1, 2), (0, Fraction(1, 2)), (3, 3)])
ROW = nums((0, 2, 0, 3))
CORD = nums((0, 1, Fraction(1, 2), 3))
JOBS = ((0, 2, (4, 1)), (1, 5, (1, 1)), (3, 5, (3, 1)))
DATA = nums((0, 1, 5))


def settled_of(places, source):
    """The claim of all touches settled in places, with a paper of places that show them."""
    found = touches_and_places(places)
    return (("settled", places, tuple(touch for touch, by in found)), tuple(source.choice(by) for touch, by in found))


def some_no_leveller(source, many):
    """Steps to which no levellings lead, with a paper."""
    while True:
        given, other = drawn_data(source, many), drawn_data(source, many)
        papers = [paper for paper in [None, *range(1, many + 1)] if judge_no_leveller(given, other, paper)]
        if papers:
            return ("no leveller", given, other), source.choice(papers)


def some_not_taut(source, places):
    """A row that isn't the cord, with a paper, the cord or another row."""
    while True:
        tube = drawn_tube(source, max(places, 3), source.choice(KINDS))
        rows = [row for row in drawn_rows(source, tube, 2) if row != cord(tube)]
        if rows:
            row = rows[-1]
            better = [one for one in rows + [cord(tube)] if frac(squares(one)) < frac(squares(row))]
            return ("not taut", tube, row), source.choice(better)


def told_claims(seed, places):
    """For each word a claim that is so, as the functions tell, with its paper: of so many places, as many jobs or fewer."""
    source, many = drawn(seed), places - 1
    kind = KINDS[seed % len(KINDS)]
    tube = drawn_tube(source, places, kind)
    row = drawn_rows(source, tube, 2)[seed % 6]
    free = open_tube(drawn_bounds(source, places, kind))
    ring = open_tube(drawn_bounds(source, min(max(places, 3), 24), kind))
    data = drawn_data(source, many)
    price = drawn_price(source, data)
    [(needs, room)] = drawn_stores(seed, 1, [many])
    jobs = drawn_jobs(source, min(many, 12), many)
    [begin, *others] = free
    yield ("taut", tube, cord(tube)), None
    yield ("loose", free, loose_cord(free)), None
    yield ("ring", ring, ring_cord(ring)), None
    yield ("leveller", steps(cord(tube)), steps(row)), to_cord(tube, row)
    yield some_no_leveller(source, many)
    yield some_not_taut(source, places)
    yield ("smooth", data, price, smoothed(data, price)), None
    yield ("stair", data, stair(data)), None
    yield settled_of(((begin[0],) * 2, *others), source)
    yield ("store", needs, room, bought(needs, room)), None
    yield ("speeds", jobs, speeds(jobs)), None
    yield ("done", jobs, speeds(jobs), parts(jobs)), None


class Checked(unittest.TestCase):
    def asked(self, claim, paper):
        """What the checker tells, True or False, with nothing changed and the same again."""
        before = repr((claim, paper))
        answer = holds(claim, paper)
        self.assertIn(repr(answer), ("True", "False"))
        self.assertEqual(repr((claim, paper)), before)
        return answer

    def taken(self, claim, paper=None):
        self.assertIs(self.asked(claim, paper), True, f"{claim!r} {paper!r}")

    def not_taken(self, claim, paper=None):
        self.assertIs(self.asked(claim, paper), False, f"{claim!r} {paper!r}")

    def judged(self, claim, paper=None):
        """Checks that the checker tells what the words tell, and tells it."""
        answer = surely_holds(claim, paper)
        self.assertIs(self.asked(claim, paper), answer, f"{claim!r} {paper!r}")
        return answer


class TestImports(unittest.TestCase):
    def test_nothing_of_the_stages_that_find_answers(self):
        tree = ast.parse(Path(checker.__file__).read_text(encoding="ascii"))
        drawn_from = {node.module for node in ast.walk(tree) if isinstance(node, ast.ImportFrom)}
        self.assertLessEqual(drawn_from, {"levelcord." + name for name in (
            "errors", "numbers", "numbertexts", "tubes", "measures", "levellings")})
        self.assertFalse([node for node in ast.walk(tree) if isinstance(node, ast.Import)])


class TestSizes(Checked):
    def test_claims_that_are_so_are_taken(self):
        for places in range(2, 26):
            for seed in range(6):
                words = []
                for claim, paper in told_claims(1000 + 10 * places + seed, places):
                    self.taken(claim, paper)
                    self.assertIs(surely_holds(claim, paper), True)
                    words.append(claim[0])
                self.assertEqual(words, list(WORDS))

    def test_the_greatest_sizes_and_one_more(self):
        def level(many):
            return (nums((0, 0)),) * many, (NONE,) * many

        for many in (2, 3, 24, 25, 26):
            tube, row = level(many)
            steep = tuple((num(k), num(k)) for k in range(many))
            for word, most in (("taut", 25), ("loose", 25), ("ring", 24)):
                self.assertIs(self.judged((word, tube, row)), many <= most and (word != "ring" or many >= 3))
            self.assertIs(self.judged(("taut", steep, tuple(low for low, high in steep))), many <= 25)
            self.assertIs(self.judged(("settled", tube, ()), ()), many <= 25)
        for many in (3, 25, 26):
            wide = tied([(0, 2)] * many)
            row = (NONE, ONE) + (NONE,) * (many - 2)
            self.assertIs(self.judged(("not taut", wide, row), (NONE,) * many), many <= 25)
            high = tied([(0, 0)] + [(0, 2)] * (many - 3) + [(1, 2), (0, 0)])
            self.assertIs(self.judged(("settled", high, ((many - 2, ONE),)), (many - 1,)), many <= 25)
        for many in (1, 2, 23, 24, 25):
            given = nums(range(many))
            self.assertIs(self.judged(("leveller", given, given), ()), many <= 24)
            self.assertIs(self.judged(("no leveller", given, given[:-1] + (NONE,)), many), 2 <= many <= 24)
            self.assertIs(self.judged(("no leveller", given[:-1] + ((-1, 1),), given), None), many <= 24)
            self.assertIs(self.judged(("smooth", given, NONE, given)), many <= 24)
            self.assertIs(self.judged(("stair", (ONE,) * many, ((NONE, (ONE,) * many),))), many <= 24)
            self.assertIs(self.judged(("store", given, NONE, given)), many <= 24)
            self.assertIs(self.judged(("speeds", ((0, many, num(many)),), (ONE,) * many)), many <= 24)
            own = tuple((hour, ONE) for hour in range(many))
            self.assertIs(self.judged(("done", ((0, many, num(many)),), (ONE,) * many, (own,))), many <= 24)
        for many in (1, 12, 13):
            jobs = ((0, 1, ONE),) * many
            self.assertIs(self.judged(("speeds", jobs, nums((many,)))), many <= 12)
            self.assertIs(self.judged(("done", jobs, nums((many,)), (((0, ONE),),) * many)), many <= 12)

    def test_nothing_at_all(self):
        for word in WORDS:
            for some in product(((), (ONE,), TUBE[:1], None), repeat=2):
                for paper in (None, (), 1):
                    if word not in ("leveller", "no leveller") or some != ((ONE,), (ONE,)):
                        self.judged((word, *some), paper)
                        self.judged((word, *some, ()), paper)
            for many in range(6):
                for paper in (None, ()):
                    self.not_taken((word,) + ((),) * many, paper)


class TestPutOtherwise(Checked):
    def follow(self, claim, paper, most=None, source=None):
        """The claim with one thing put otherwise, and its paper so; of many some. Tells how many were not taken."""
        others = [(other, paper) for other in put_otherwise(claim)] + [(claim, other) for other in put_otherwise(paper)]
        if most is not None and len(others) > most:
            others = source.sample(others, most)
        return sum(not self.judged(*pair) for pair in others)

    def test_small_ones_at_every_place_and_depth(self):
        for places in (2, 3, 4):
            for seed in range(6):
                for claim, paper in told_claims(2000 + 10 * places + seed, places):
                    self.assertGreater(self.follow(claim, paper), 20)

    def test_great_ones_at_some(self):
        source = drawn(21)
        for places in (6, 13, 24, 25):
            for seed in range(2):
                for claim, paper in told_claims(3000 + 10 * places + seed, places):
                    self.assertGreater(self.follow(claim, paper, 120, source), 20)

    def test_rows_with_one_number_otherwise_are_not_taken(self):
        for places in (3, 9, 25):
            for claim, paper in told_claims(4000 + places, places):
                if claim[0] in ("taut", "smooth", "store", "speeds", "done"):
                    row = claim[3 if claim[0] in ("smooth", "store") else 2]
                    for at, one in enumerate(row):
                        for little in (1, -1, Fraction(1, 2), Fraction(-1, 3), Fraction(1, 10 ** 9)):
                            other = row[:at] + (num(frac(one) + little),) + row[at + 1:]
                            self.not_taken(tuple(other if part is row else part for part in claim), paper)

    def test_another_word_and_another_word_s_parts(self):
        for seed in range(12):
            claims = list(told_claims(5000 + seed, 2 + seed % 5))
            for (claim, paper), (other, other_paper) in product(claims, repeat=2):
                self.judged((other[0], *claim[1:]), paper)
                self.judged((other[0], *claim[1:]), other_paper)
                self.judged(claim, other_paper)
                for at, part in enumerate(claim):
                    for another in other[1:]:
                        self.judged(claim[:at] + (another,) + claim[at + 1:], paper)

    def test_papers_of_other_kinds(self):
        for claim, paper in told_claims(6000, 4):
            for other in strange() + no_numbers() + list(spoilt(paper)) + [(paper,), [paper], claim, (claim, paper)]:
                if other != paper:
                    self.judged(claim, other)
        for claim, paper in told_claims(6001, 4):
            if paper is None and claim[0] != "no leveller":
                for other in (0, False, (), "", "None", [], {}, (None,)):
                    self.not_taken(claim, other)

    def test_true_for_1_and_false_for_0(self):
        self.taken(("taut", TUBE, CORD))
        self.not_taken(("taut", TUBE, ((0, True),) + CORD[1:]))
        self.not_taken(("taut", TUBE, ((False, 1),) + CORD[1:]))
        self.not_taken(("taut", (((0, 1), (0, True)),) + TUBE[1:], CORD))
        self.not_taken(("leveller", ((True, 1),), (ONE,)), ())
        self.not_taken(("leveller", (ONE,), ((True, 1),)), ())
        self.taken(("leveller", nums((1, 1)), nums((2, 0))), ((0, 1, ONE),))
        self.not_taken(("leveller", nums((1, 1)), nums((2, 0))), ((False, 1, ONE),))
        self.not_taken(("leveller", nums((1, 1)), nums((2, 0))), ((0, True, ONE),))
        self.not_taken(("leveller", nums((1, 1)), nums((2, 0))), ((0, 1, (True, 1)),))
        self.taken(("no leveller", (TWO,), (ONE,)), 1)
        self.not_taken(("no leveller", (TWO,), (ONE,)), True)
        self.taken(("speeds", ((0, 1, ONE),), (ONE,)))
        self.not_taken(("speeds", ((False, 1, ONE),), (ONE,)))
        self.not_taken(("speeds", ((0, True, ONE),), (ONE,)))
        self.taken(("done", ((0, 1, ONE),), (ONE,), (((0, ONE),),)))
        self.not_taken(("done", ((0, 1, ONE),), (ONE,), (((False, ONE),),)))
        self.not_taken(("done", ((0, 1, ONE),), (ONE,), (((0, (True, 1)),),)))
        self.not_taken(("stair", (ONE,), (((False, 1), (ONE,)),)))
        self.not_taken(("stair", (ONE,), ((NONE, ((1, True),)),)))


class TestNoClaims(Checked):
    def test_things_of_any_kind(self):
        for claim in strange() + no_numbers() + [(), ("",), (None,), ("taut",), (("taut",),), ["taut", TUBE, CORD]]:
            for paper in strange():
                self.not_taken(claim, paper)
                self.not_taken((claim, TUBE, CORD), paper)
        for word in (None, 0, True, b"taut", ["taut"], {}, ("taut",), "Taut", "taut ", "", "no", "tight", "not  taut"):
            self.not_taken((word, TUBE, CORD))

    def test_claims_of_things_of_any_kind(self):
        for word in WORDS:
            for some in product(strange(), repeat=2):
                self.not_taken((word, *some))
                self.not_taken((word, *some), ())
                self.not_taken((word, *some, ONE))
            for thing in strange():
                self.judged((word, TUBE, thing))
                self.judged((word, thing, CORD), ())
                self.judged((word, thing, ONE, CORD))
                self.judged((word, CORD, thing, CORD))

    def drawn_thing(self, source, deep):
        kind = source.choice(("number", "tuple", "tuple", "list", "dict", "plain"))
        if deep == 0 or kind == "plain":
            return source.choice((None, True, False, 0, 1, 2, -1, "", "taut", "0", 10 ** 9))
        if kind == "number":
            return (source.randint(-2, 2), source.randint(-1, 2))
        many = [self.drawn_thing(source, deep - 1) for k in range(source.randint(0, 3))]
        return tuple(many) if kind == "tuple" else many if kind == "list" else dict(enumerate(many))

    def test_drawn_things(self):
        source = drawn(22)
        for k in range(20000):
            some = [self.drawn_thing(source, source.randint(0, 9)) for k in range(4)]
            self.judged(tuple(some[:3]), some[3])
            word = source.choice(WORDS)
            self.judged((word, *some[:2]), some[3])
            self.judged((word, *some[:3]), source.choice((None, some[3])))


class TestTaut(Checked):
    def test_the_cord_alone(self):
        self.taken(("taut", TUBE, CORD))
        for row in [ROW, CORD[:-1], CORD + CORD[-1:], (), nums((0, 1, Fraction(1, 2), 2)), nums((0, 1, Fraction(3, 4), 3))]:
            self.not_taken(("taut", TUBE, row))
        source = drawn(23)
        for tube in drawn_tubes(23, 20, (2, 3, 4, 9, 25)):
            for row in drawn_rows(source, tube, 3) + [cord(tube)]:
                self.assertIs(self.judged(("taut", tube, row)), row == cord(tube))

    def test_all_small_ones(self):
        for bounds in product(((0, 0), (0, 1), (1, 1), (0, 2)), repeat=2):
            for end in (0, 2):
                tube = open_tube(((0, 0), *bounds, (end, end)))
                taken = [row for row in rows_of_sixths(tube) if self.asked(("taut", tube, row), None)]
                self.assertEqual(taken, [cord(tube)])

    def test_a_tube_that_is_not_tied(self):
        for tube in (TUBE[:3], TUBE[1:], (nums((0, 1)),) + TUBE[1:], TUBE[:-1] + (nums((3, 4)),), TUBE[:1]):
            for row in (CORD, CORD[:3], CORD[1:], tuple(low for low, high in tube)):
                self.not_taken(("taut", tube, row))

    def test_bends_rightly_but_at_one_place(self):
        tube = tied([(0, 0), (-1, 1), (-1, 1), (-1, 1), (-1, 1), (0, 0)])
        for at in range(1, 5):
            row = tuple(HALF if k == at else NONE for k in range(6))
            for word in ("taut", "loose", "ring"):
                self.not_taken((word, tube, row))
        self.not_taken(("taut", tied([(0, 0), (-1, 1), (2, 2), (4, 5), (6, 6)]), nums((0, 1, 2, 5, 6))))

    def test_no_rows_of_the_tube(self):
        for tube in (tied([(0, 0), (1, 2), (0, 0)]), tied([(0, 0), (-2, -1), (0, 0)])):
            self.not_taken(("taut", tube, nums((0, 0, 0))))
            self.not_taken(("loose", tube, nums((0, 0, 0))))
            self.not_taken(("ring", tube, nums((0, 0, 0))))


class TestLooseAndRing(Checked):
    def test_other_heights_of_a_level_row(self):
        for many in (3, 4, 24):
            tube = open_tube([(-k, 1 + k) for k in range(many)])
            for height in (0, Fraction(1, 2), 1, Fraction(1, 3), Fraction(999999, 10 ** 6)):
                for word in ("loose", "ring"):
                    self.taken((word, tube, nums([height] * many)))
            for height in (-1, Fraction(-1, 10 ** 6), Fraction(1000001, 10 ** 6), 2):
                for word in ("loose", "ring"):
                    self.not_taken((word, tube, nums([height] * many)))
            for word in ("loose", "ring"):
                self.not_taken((word, tube, nums([0] * (many - 1) + [1])))
                self.not_taken((word, tube, nums([Fraction(1, 2)] + [0] * (many - 1))))

    def test_of_drawn_tubes(self):
        source = drawn(24)
        for tube in drawn_open_tubes(24, 20, (2, 3, 4, 9, 24, 25)):
            level = least_level(tube)
            for row in drawn_rows(source, tube, 3) + [loose_cord(tube)] + [level] * (level is not None):
                self.assertIs(self.judged(("loose", tube, row)), is_loosely_taut(tube, row))
                if 3 <= len(tube) <= 24:
                    self.assertIs(self.judged(("ring", tube, row)), is_ring_taut(tube, row))
                    self.judged(("ring", tube, ring_cord(tube)))
                else:
                    self.not_taken(("ring", tube, row))

    def test_all_small_ones(self):
        for bounds in product(((0, 0), (0, 1), (1, 1), (-1, 0)), repeat=3):
            tube = open_tube(bounds)
            for row in rows_of_sixths(tube):
                self.assertIs(self.asked(("loose", tube, row), None), is_loosely_taut(tube, row))
                self.assertIs(self.asked(("ring", tube, row), None), is_ring_taut(tube, row))

    def test_rings_of_2_and_25_places(self):
        for many in (1, 2, 3, 24, 25, 26):
            self.assertIs(self.asked(("ring", (nums((0, 1)),) * many, (ONE,) * many), None), 3 <= many <= 24)
            steep = open_tube([(k % 2, k % 2) for k in range(many)])
            self.assertIs(self.asked(("ring", steep, nums(k % 2 for k in range(many))), None), 3 <= many <= 24)

    def test_ends(self):
        up = open_tube([(0, 2), (3, 4)])
        self.taken(("loose", up, nums((2, 3))))
        for row in ((0, 3), (1, 3), (2, 4), (0, 4), (2, Fraction(7, 2))):
            self.not_taken(("loose", up, nums(row)))
        down = up[::-1]
        self.taken(("loose", down, nums((3, 2))))
        for row in ((3, 0), (3, 1), (4, 2), (4, 0), (Fraction(7, 2), 2)):
            self.not_taken(("loose", down, nums(row)))


class TestLevellers(Checked):
    def test_walked_to_just_the_steps(self):
        given, other = nums((3, 2, 1)), nums((5, 1, 0))
        self.taken(("leveller", given, other), ((0, 1, ONE), (0, 2, ONE)))
        self.taken(("leveller", given, other), ((0, 2, ONE), (0, 1, ONE)))
        self.taken(("leveller", given, other), ((0, 1, HALF), (0, 1, HALF), (0, 2, ONE)))
        # more than needed: there and back again, by exchanges
        self.taken(("leveller", given, other), ((0, 1, (4, 1)), (1, 0, (4, 1)), (0, 1, ONE), (0, 2, ONE)))
        for paper in (
            (), ((0, 1, ONE),), ((0, 1, ONE), (0, 2, TWO)), ((0, 1, (5, 1)), (0, 2, ONE)), ((0, 1, ONE), (2, 0, ONE)),
            ((1, 0, ONE),), ((0, 0, ONE), (0, 1, ONE), (0, 2, ONE)), ((0, 1, NONE), (0, 1, ONE), (0, 2, ONE)),
            ((0, 1, ONE), (0, 2, ONE), (2, 2, ONE)), ((0, 1, ONE), (0, 2, ONE), None), ((0, 3, ONE),), ((0, -1, ONE),),
            [(0, 1, ONE), (0, 2, ONE)], ([0, 1, ONE], (0, 2, ONE)), None, 2, ((0, 1, (2, 2)), (0, 2, ONE)),
        ):
            self.not_taken(("leveller", given, other), paper)
            self.assertIs(surely_holds(("leveller", given, other), paper), False)

    def test_to_itself(self):
        for many in range(1, 25):
            given = nums(range(many))
            self.taken(("leveller", given, given), ())
            self.not_taken(("no leveller", given, given), None)
            for k in range(-1, many + 2):
                self.not_taken(("no leveller", given, given), k)

    def test_not_as_many(self):
        for one, other in ((1, 2), (2, 1), (24, 23)):
            for word in ("leveller", "no leveller"):
                for paper in (None, (), 1, 2):
                    self.not_taken((word, (ONE,) * one, (ONE,) * other), paper)

    def test_where_levellings_lead_there_no_leveller_is_never_taken(self):
        source = drawn(25)
        led = 0
        for k in range(600):
            many = source.choice((1, 2, 3, 4, 12, 24))
            given, other = (nums(source.randint(-2, 2) for k in range(many)) for k in range(2))
            if source.random() < 0.3:
                other = tuple(source.sample(given, many))
            walk = between(other, given)
            papers = [paper for paper in [None, *range(-1, many + 3)] if self.judged(("no leveller", given, other), paper)]
            self.assertIs(papers == [], walk is not None)
            self.judged(("leveller", given, other), walk)
            self.judged(("leveller", given, other), ())
            led += walk is not None
        self.assertGreater(led, 100)

    def test_which_k(self):
        given, other = nums((3, 3, 0)), nums((4, 1, 1))
        self.assertEqual([k for k in range(-2, 9) if holds(("no leveller", given, other), k)], [2])
        self.not_taken(("no leveller", given, other), None)
        self.assertEqual([k for k in range(-2, 9) if holds(("no leveller", other, given), k)], [1])
        more = nums((3, 3, 1))
        self.assertEqual([k for k in range(-2, 9) if holds(("no leveller", more, other), k)], [2, 3])
        self.taken(("no leveller", more, other), None)
        self.taken(("no leveller", other, more), None)
        for paper in (True, "2", (2,), [2], (2, 1), 2 ** 70, -1, 0):
            self.not_taken(("no leveller", more, other), paper)


class TestNotTaut(Checked):
    def test_squares(self):
        wide = tied([(0, 0), (-3, 3), (0, 0)])
        row = nums((0, 2, 0))
        for height in (0, 1, -1, Fraction(-3, 2), Fraction(199, 100)):
            self.taken(("not taut", wide, row), nums((0, height, 0)))
        for height in (2, -2, Fraction(201, 100), 3, -3, 4, Fraction(-5, 2)):
            self.not_taken(("not taut", wide, row), nums((0, height, 0)))
        narrow = tied([(0, 0), (1, 3), (0, 0)])
        self.taken(("not taut", narrow, row), nums((0, 1, 0)))
        self.not_taken(("not taut", narrow, row), nums((0, 0, 0)))
        self.not_taken(("not taut", narrow, row), nums((0, 1)))
        self.not_taken(("not taut", narrow[:2] + (nums((0, 1)),), row), nums((0, 1, 0)))
        self.not_taken(("not taut", narrow, nums((0, 4, 0))), nums((0, 1, 0)))

    def test_never_of_the_cord(self):
        source = drawn(26)
        for tube in drawn_tubes(26, 15, (2, 3, 4, 9, 25)):
            row = cord(tube)
            others = drawn_rows(source, tube, 4)
            for other in others + [row]:
                self.not_taken(("not taut", tube, row), other)
                self.assertIs(self.judged(("not taut", tube, other), row), other != row)
                self.judged(("not taut", tube, other), others[-1])


class TestSmoothAndStair(Checked):
    def test_prices(self):
        source = drawn(27)
        for many in (1, 2, 3, 8, 24):
            data = drawn_data(source, many)
            told = stair(data)
            prices = fracs([price for price, row in told])
            for price in prices + [max(prices) / 3, max(prices) / 2, max(prices) + 1, max(prices) * 5, Fraction(1, 3)]:
                self.taken(("smooth", data, num(price), at_price(told, num(price))))
                for other in (data, told[-1][1], smoothed(data, num(price / 2)), smoothed(data, num(price + 1))):
                    self.judged(("smooth", data, num(price), other))
            for price in ((-1, 1), (0, 2), (2, 2), 0, None, (-1, 10 ** 6)):
                self.not_taken(("smooth", data, price, data))

    def test_sums_in_the_tube_that_are_not_the_cord_s(self):
        source = drawn(28)
        for k in range(60):
            data = drawn_data(source, source.randint(1, 24))
            price = drawn_price(source, data)
            for row in drawn_rows(source, tube_of(data, price), 2):
                self.assertIs(self.judged(("smooth", data, price, steps(row))), steps(row) == smoothed(data, price))

    def stairs_otherwise(self, data):
        """Stairs that are none: a pair left out, put in, twice, exchanged; prices and rows of others."""
        told = stair(data)
        for at, (price, row) in enumerate(told):
            yield told[:at] + told[at + 1:]
            yield told[:at] + told[at:at + 1] + told[at:]
            for other in range(at):
                changed = list(told)
                changed[at], changed[other] = changed[other], changed[at]
                yield tuple(changed)
            yield told[:at] + ((price, data if at else row[::-1] + row[:1]),) + told[at + 1:]
            yield told[:at]
            ahead = frac(told[at - 1][0]) if at else Fraction(-1)
            for share in (Fraction(1, 2), Fraction(1, 3), Fraction(99, 100)):
                between = num(ahead + (frac(price) - ahead) * share)
                if at:
                    yield told[:at] + ((between, smoothed(data, between)),) + told[at:]
                    yield told[:at] + ((between, smoothed(data, between)),) + told[at + 1:]
        beyond = num(frac(told[-1][0]) + 1)
        yield told + ((beyond, told[-1][1]),)
        yield told[:-1] + ((beyond, told[-1][1]),)

    def test_stairs(self):
        source = drawn(29)
        for many in list(range(1, 7)) + [12, 24]:
            for k in range(3):
                data = drawn_data(source, many)
                self.taken(("stair", data, stair(data)))
                others = list(self.stairs_otherwise(data))
                for other in source.sample(others, min(len(others), 30)):
                    self.not_taken(("stair", data, other))

    def test_all_small_data(self):
        for many in (1, 2, 3, 4):
            for data in product(range(3), repeat=many):
                data = nums(data)
                self.taken(("stair", data, stair(data)))
                for other in self.stairs_otherwise(data):
                    self.not_taken(("stair", data, other))

    def test_a_join_at_which_nothing_else_bends(self):
        # two joins far from one another: leaving either one out must show
        data = nums((0, 1, 9, 20, 24))
        told = stair(data)
        self.assertGreater(len(told), 3)
        for at in range(len(told)):
            self.not_taken(("stair", data, told[:at] + told[at + 1:]))

    def test_the_first_and_the_last_are_no_neighbours(self):
        data = nums((0, 5, -5, 2))
        told = stair(data)
        meeting = (ONE, nums((1, 3, -3, 1)))
        self.assertEqual(meeting[1], smoothed(data, ONE))
        self.assertLess(1, frac(told[1][0]))
        self.taken(("stair", data, told))
        self.not_taken(("stair", data, told[:1] + (meeting,) + told[1:]))

    def test_no_stairs(self):
        for thing in [(), None, DATA, ((NONE, DATA),), stair(DATA)[1:], list(stair(DATA)), (stair(DATA),)]:
            self.not_taken(("stair", DATA, thing))
        self.taken(("stair", DATA[:1] * 5, ((NONE, DATA[:1] * 5),)))


class TestSettled(Checked):
    def test_all_touches_fewer_and_none(self):
        source = drawn(30)
        some = 0
        for places in drawn_places(30, 6, (2, 3, 4, 6, 10, 25)):
            found = touches_and_places(places)
            touches = tuple(touch for touch, by in found)
            for many in range(len(found) + 1):
                self.taken(("settled", places, touches[:many]), tuple(source.choice(by) for touch, by in found[:many]))
                if many:
                    some += 1
                    paper = tuple(source.choice(by) for touch, by in found[:many])
                    self.not_taken(("settled", places, touches[:many]), paper[:-1])
                    self.not_taken(("settled", places, touches[:many - 1]), paper)
                    self.judged(("settled", places, touches[1:many]), paper[1:])
                    self.judged(("settled", places, touches[:many][::-1]), paper[::-1])
        self.assertGreater(some, 50)

    def test_each_later_place(self):
        source = drawn(31)
        shown_by = []
        for places in drawn_places(31, 8, (3, 4, 6, 12, 25)):
            found = touches_and_places(places)
            touches, paper = tuple(touch for touch, by in found), tuple(source.choice(by) for touch, by in found)
            for at, (touch, by) in enumerate(found):
                for place in range(-2, len(places) + 2):
                    other = paper[:at] + (place,) + paper[at + 1:]
                    self.assertIs(self.asked(("settled", places, touches), other), place in by)
                shown_by.append(len(by))
        self.assertGreater(max(shown_by), 1)

    def test_touches_put_otherwise(self):
        source = drawn(32)
        for places in drawn_places(32, 4, (3, 4, 6)):
            claim, paper = settled_of(places, source)
            touches = claim[2]
            for place, (low, high) in enumerate(places):
                middle = num((frac(low) + frac(high)) / 2)
                for height in (low, high, middle, num(frac(high) + 1)):
                    for at in range(len(touches) + 1):
                        other = touches[:at] + ((place, height),) + touches[at + 1:]
                        for by in range(len(places)):
                            self.judged(("settled", places, other), (paper + (by,))[:len(other)])
                            self.judged(("settled", places, other), paper[:at] + (by,) + paper[at + 1:])

    def test_all_small_ones(self):
        pairs = [(low, high) for low, high in product(range(-1, 2), repeat=2) if low <= high]
        for bounds in product(pairs, repeat=3):
            places = open_tube(((0, 0),) + bounds)
            self.judged(("settled", places, ()), ())
            for place, height, by in product((1, 2, 3), (-1, 0, 1), (1, 2, 3)):
                if self.judged(("settled", places, ((place, num(height)),)), (by,)):
                    for other, more in product((2, 3), (-1, 0, 1)):
                        self.judged(("settled", places, ((place, num(height)), (other, num(more)))), (by, 3))

    def test_the_first_place_is_one_number_the_last_may_be_more(self):
        places = open_tube([(0, 0), (1, 2), (-5, 0)])
        self.taken(("settled", places, ((1, ONE),)), (2,))
        self.taken(("settled", places[:2] + (nums((0, 0)),), ((1, ONE),)), (2,))
        self.not_taken(("settled", (nums((0, 1)),) + places[1:], ((1, ONE),)), (2,))
        self.not_taken(("settled", (nums((0, 1)),) + places[1:], ()), ())
        self.not_taken(("settled", places[:1], ()), ())

    def test_on_the_line(self):
        straight = open_tube([(0, 0), (-9, 1), (-9, 2), (-9, 4), (5, 9)])
        self.taken(("settled", straight, ((2, TWO),)), (4,))
        self.not_taken(("settled", straight, ((1, ONE),)), (4,))
        self.not_taken(("settled", straight, ((1, ONE), (2, TWO))), (4, 4))
        on_it = straight[:4] + (nums((4, 9)),)
        self.not_taken(("settled", on_it, ((2, TWO),)), (4,))
        self.taken(("settled", on_it, ()), ())

    def test_kinds(self):
        places = open_tube([(0, 0), (1, 2), (-5, 0)])
        for touches in ([(1, ONE)], ([1, ONE],), ((1, [1, 1]),), ((True, ONE),), ((1, (2, 2)),), ((1,),), ((1, ONE, 2),), (1,)):
            self.not_taken(("settled", places, touches), (2,))
        for paper in ([2], (2, 2), (), None, 2, ((2,),), ("2",), ((2, 1),)):
            self.not_taken(("settled", places, ((1, ONE),)), paper)


class TestStoreSpeedsDone(Checked):
    def test_sums_in_the_bounds_that_are_not_the_cord_s(self):
        source = drawn(33)
        for needs, room in drawn_stores(33, 3, range(1, 25)):
            for row in drawn_rows(source, store_tube(needs, room), 2):
                self.assertIs(self.judged(("store", needs, room, steps(row))), steps(row) == bought(needs, room))
        for jobs in all_jobs(34, 4):
            for row in drawn_rows(source, job_tube(jobs), 2):
                self.assertIs(self.judged(("speeds", jobs, steps(row))), steps(row) == speeds(jobs))

    def test_needs_and_rooms(self):
        needs = nums((1, 5, 0, 2))
        self.taken(("store", needs, TWO, nums((3, 3, 1, 1))))
        self.taken(("store", needs, NONE, needs))
        self.not_taken(("store", needs, ONE, nums((3, 3, 1, 1))))
        self.not_taken(("store", nums((1, 5, -1, 3)), TWO, nums((3, 3, 1, 1))))
        for room in no_numbers() + [(-1, 1), (-1, 10 ** 6)]:
            self.not_taken(("store", needs, room, needs))
        for thing in spoilt(needs):
            self.not_taken(("store", thing, TWO, nums((3, 3, 1, 1))))
            self.not_taken(("store", needs, TWO, thing))

    def test_jobs_that_are_none(self):
        for jobs in [((0, 2, ONE), (0, 1, ONE)), ((1, 2, ONE), (0, 2, ONE)), ((0, 1, NONE),), ((0, 1, (-1, 1)),), ((1, 1, ONE),),
                     ((-1, 1, ONE),), ((0, 25, ONE),), (), ((0, 1, ONE),) * 13, ((0, 1),), ((0, 1, ONE, ONE),), [(0, 1, ONE)]]:
            for given in (nums((0,)), nums((1,)), nums((-1,)), nums((1, 1)), nums((2, 0)), nums((0, 2)), nums((13,)), ()):
                self.not_taken(("speeds", jobs, given))
                for shares in ((), ((),), (((0, ONE),),), (((0, ONE),), ((1, ONE),)), (((1, ONE),), ((0, ONE),)), (((0, ONE),),) * 13):
                    self.not_taken(("done", jobs, given, shares))

    def test_done_in_whatever_order(self):
        jobs = ((0, 2, ONE), (0, 2, TWO))
        self.taken(("done", jobs, nums((1, 2)), (((0, ONE),), ((1, TWO),))))
        self.taken(("done", jobs, nums((2, 1)), (((1, ONE),), ((0, TWO),))))
        self.taken(("done", jobs, nums((Fraction(3, 2), Fraction(3, 2))), (((0, HALF), (1, HALF)), ((0, ONE), (1, ONE)))))
        self.taken(("done", jobs, nums((3, 0)), (((0, ONE),), ((0, TWO),))))
        self.not_taken(("done", jobs, nums((1, 2)), (((0, TWO),), ((1, ONE),))))
        self.not_taken(("done", jobs, nums((2, 1)), (((0, ONE),), ((1, TWO),))))
        self.not_taken(("done", jobs, nums((3,)), (((0, ONE),), ((0, TWO),))))
        self.not_taken(("done", jobs, nums((3, 0, 0)), (((0, ONE),), ((0, TWO),))))

    def test_parts(self):
        own = parts(JOBS)
        given = speeds(JOBS)
        self.taken(("done", JOBS, given, own))
        for shares in (
            own[:2], own + ((),), own[::-1], own[:2] + ((),), list(own), (list(own[0]),) + own[1:],
            (own[0][::-1],) + own[1:], own[:2] + (own[2][::-1],), own[:2] + (((3, (3, 2)), (3, (3, 2))),),
            own[:2] + (((2, HALF), (3, ONE), (4, (3, 2))),), own[:2] + (((3, (3, 2)), (4, ONE), (5, HALF)),),
            own[:1] + (((0, ONE),),) + own[2:], (own[0] + ((2, NONE),),) + own[1:],
            own[:1] + (((2, ONE), (3, NONE)),) + own[2:], own[:1] + (((1, (-1, 1)), (2, TWO)),) + own[2:],
            own[:1] + (((2, HALF), (2, HALF)),) + own[2:], None, (), ((), (), ()), (None,) * 3, (((None, None),),) * 3,
        ):
            self.not_taken(("done", JOBS, given, shares))

    def test_exchanged_between_jobs(self):
        source = drawn(35)
        kept = 0
        for jobs in all_jobs(36, 4):
            own = [dict(one) for one in parts(jobs)]
            for k in range(20):
                one, other = source.randrange(len(jobs)), source.randrange(len(jobs))
                if one == other or not own[one] or not own[other]:
                    continue
                here, there = source.choice(sorted(own[one])), source.choice(sorted(own[other]))
                # as much of the one job goes to the other's stretch as of the other to the one's
                much = num(min(frac(own[one][here]), frac(own[other][there])) * source.choice((1, Fraction(1, 2))))
                for mine, less, more in ((own[one], here, there), (own[other], there, here)):
                    mine[less] = num(frac(mine[less]) - frac(much))
                    mine[more] = num(frac(mine.get(more, NONE)) + frac(much))
                    if mine[less] == NONE:
                        del mine[less]
                kept += self.judged(("done", jobs, speeds(jobs), tuple(tuple(sorted(mine.items())) for mine in own)))
        self.assertGreater(kept, 50)

    def test_other_speeds_than_the_cord_s_may_be_done(self):
        source = drawn(37)
        other = 0
        for jobs in all_jobs(38, 3):
            for row in drawn_rows(source, job_tube(jobs), 1):
                given = steps_of(row)
                if min(given) < 0:
                    continue
                left, shares, hours = [frac(work) for arrival, due, work in jobs], [[] for job in jobs], list(given)
                for at, (arrival, due, work) in enumerate(jobs):
                    for hour in range(arrival, due):
                        part = min(left[at], hours[hour])
                        if part > 0:
                            shares[at].append((hour, num(part)))
                            left[at] -= part
                            hours[hour] -= part
                claim = ("done", jobs, nums(given), tuple(tuple(own) for own in shares))
                self.judged(claim)
                other += holds(claim, None) and nums(given) != speeds(jobs)
        self.assertGreater(other, 20)


class TestKept(Checked):
    def test_what_is_handed_in_stays_as_it_was(self):
        for seed in range(3):
            for claim, paper in told_claims(7000 + seed, 5):
                for given in (claim, list(claim), tuple(list(part) for part in claim), {"claim": [claim]}):
                    before = deepcopy((given, paper))
                    first = holds(given, paper)
                    self.assertEqual(repr((given, paper)), repr(before))
                    self.assertIs(holds(given, paper), first)
                self.taken(claim, paper)
