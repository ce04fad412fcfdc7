import unittest
from fractions import Fraction
from itertools import product

from levelcord.cords import bends, cord
from levelcord.errors import NoNumber, NoRow, NoTube
from levelcord.funnels import Funnel
from levelcord.tubes import is_tube
from tests.helper import (
    KINDS, drawn, drawn_bounds, drawn_places, frac, is_surely_taut, no_numbers, num, nums, open_tube, refused, spoilt,
    tied, touches_by_words,
)


def filled(places):
    funnel = Funnel(places[0][0])
    for low, high in places[1:]:
        funnel.put(low, high)
    return funnel


def ends_of(place):
    low, high = frac(place[0]), frac(place[1])
    return nums({low, high, (low + high) / 2, low + (high - low) / 3})


class TestSettled(unittest.TestCase):
    def test_plain_ones(self):
        funnel = Funnel((0, 1))
        self.assertEqual(funnel.settled(), ())
        self.assertEqual(funnel.put((1, 1), (2, 1)), ())
        self.assertEqual(funnel.put((0, 1), (1, 2)), ((1, (1, 1)),))
        self.assertEqual(funnel.put((3, 1), (4, 1)), ((2, (1, 2)),))
        self.assertEqual(funnel.put((3, 1), (9, 1)), ())
        self.assertEqual(funnel.settled(), ((1, (1, 1)), (2, (1, 2))))

    def test_several_at_one_place(self):
        funnel = Funnel((0, 1))
        self.assertEqual(funnel.put((-9, 1), (1, 1)), ())
        self.assertEqual(funnel.put((-9, 1), (3, 1)), ())
        self.assertEqual(funnel.put((-9, 1), (6, 1)), ())
        self.assertEqual(funnel.put((20, 1), (20, 1)), ((1, (1, 1)), (2, (3, 1)), (3, (6, 1))))

    def test_of_several_on_one_line_the_last_one(self):
        funnel = filled(open_tube([(0, 0), (-9, 1), (-9, 2), (-9, 3)]))
        self.assertEqual(funnel.put((4, 1), (9, 1)), ())
        self.assertEqual(funnel.put((6, 1), (9, 1)), ((3, (3, 1)),))
        funnel = filled(open_tube([(0, 0), (1, 9), (2, 9), (0, 9)]))
        self.assertEqual(funnel.put((0, 1), (3, 1)), ((2, (2, 1)),))

    def test_a_low_on_the_line_shows_nothing(self):
        funnel = filled(open_tube([(0, 0), (-1, 1), (2, 9)]))
        self.assertEqual(funnel.settled(), ())
        self.assertEqual(filled(open_tube([(0, 0), (-1, 1), (2, 2), (5, 9)])).settled(), nums_of((2, 2)))
        self.assertEqual(filled(open_tube([(0, 0), (-1, 1), (3, 9)])).settled(), nums_of((1, 1)))

    def follow(self, places):
        funnel = Funnel(places[0][0])
        self.assertEqual((funnel.tube(), funnel.settled()), (places[:1], ()))
        for many in range(2, len(places) + 1):
            ahead = funnel.settled()
            anew = funnel.put(places[many - 1][0], places[many - 1][1])
            self.assertIs(anew.__class__, tuple)
            self.assertIs(funnel.settled().__class__, tuple)
            self.assertEqual(funnel.settled(), ahead + anew)
            self.assertEqual(funnel.settled(), touches_by_words(places[:many]))
            self.assertEqual(funnel.tube(), places[:many])
            self.assertTrue(is_tube(funnel.tube()))

    def test_by_words(self):
        for places in drawn_places(100, 8, (2, 3, 4, 6, 10, 25)):
            self.follow(places)

    def test_all_small_ones(self):
        pairs = [(low, high) for low, high in product(range(-1, 3), repeat=2) if low <= high]
        for bounds in product(pairs, repeat=3):
            self.follow(open_tube(((0, 0),) + bounds))

    def test_settled_touches_are_bends_whatever_comes(self):
        source = drawn(101)
        some = 0
        for places in drawn_places(101, 8, (3, 4, 6, 10, 24)):
            for k in range(4):
                many = source.randint(2, len(places))
                more = open_tube(drawn_bounds(source, source.randint(1, 26 - many), source.choice(KINDS)))[:25 - many]
                early = filled(places[:many])
                funnel = filled(places[:many] + more)
                self.assertEqual(funnel.settled()[:len(early.settled())], early.settled())
                for end in ends_of(funnel.tube()[-1]):
                    row = funnel.cord_to(end)
                    bent = dict(bends(row))
                    for touch in funnel.settled():
                        some += 1
                        place, height = touch
                        self.assertEqual(row[place], height)
                        low, high = funnel.tube()[place]
                        self.assertEqual(height, high if bent[place] == "up" else low)
                    for ahead, after in zip(((0, None),) + funnel.settled(), funnel.settled()):
                        self.assertFalse([place for place in bent if ahead[0] < place < after[0]])
        self.assertGreater(some, 1000)

    def test_funnels_side_by_side(self):
        tubes = [places for places in drawn_places(102, 2, (9, 14)) if len(places) >= 9]
        funnels = [Funnel(places[0][0]) for places in tubes]
        for many in range(1, 9):
            for funnel, places in zip(funnels, tubes):
                funnel.put(places[many][0], places[many][1])
        for funnel, places in zip(funnels, tubes):
            alone = filled(places[:9])
            self.assertEqual(funnel.settled(), alone.settled())
            self.assertEqual(funnel.tube(), places[:9])
            self.assertEqual(funnel.cord_to(places[8][0]), alone.cord_to(places[8][0]))


def nums_of(*touches):
    return tuple((place, num(height)) for place, height in touches)


class TestCordTo(unittest.TestCase):
    def test_the_cord_of_all_places(self):
        for places in drawn_places(103, 8, (2, 3, 6, 25)):
            funnel = filled(places)
            for end in ends_of(places[-1]):
                row = funnel.cord_to(end)
                tube = places[:-1] + ((end, end),)
                self.assertTrue(is_surely_taut(tube, row))
                self.assertEqual(row, cord(tube))
            self.assertEqual(funnel.tube(), places)

    def test_asking_changes_nothing(self):
        for places in drawn_places(104, 3, (6, 25)):
            funnel, plain = Funnel(places[0][0]), Funnel(places[0][0])
            for low, high in places[1:]:
                self.assertEqual(funnel.put(low, high), plain.put(low, high))
                for end in (low, high):
                    funnel.cord_to(end)
                funnel.settled()
                funnel.tube()
            self.assertEqual(funnel.settled(), plain.settled())
            self.assertEqual(funnel.tube(), plain.tube())

    def test_no_place_was_told(self):
        funnel = Funnel((1, 2))
        for end in [(1, 2), (0, 1)] + no_numbers():
            refused(NoTube, funnel.cord_to, end)
        self.assertEqual(funnel.tube(), (((1, 2), (1, 2)),))

    def test_an_end_outside_or_of_any_kind(self):
        funnel = filled(open_tube([(0, 0), (1, 2), (-1, 3)]))
        for end in (-1, 0, Fraction(1, 2), 3):
            self.assertEqual(funnel.cord_to(num(end))[-1], num(end))
        for end in [(-2, 1), (4, 1), (-1000001, 10 ** 6), (3000001, 10 ** 6), (10 ** 9, 1)] + no_numbers():
            refused(NoRow, funnel.cord_to, end)
        for end in no_numbers() + list(spoilt((3, 1))):
            refused(NoRow, funnel.cord_to, end)
        self.assertEqual(funnel.settled(), ())


class TestPutRefusals(unittest.TestCase):
    def test_begun_with_what_is_no_number(self):
        for begin in no_numbers():
            refused(NoNumber, Funnel, begin)

    def test_25_places_and_one_more(self):
        for seed in range(5):
            source = drawn(105 + seed)
            bounds = open_tube(drawn_bounds(source, 25, KINDS[seed]))
            funnel = filled(((bounds[0][0],) * 2,) + bounds[1:])
            told, touches = funnel.tube(), funnel.settled()
            self.assertEqual(len(told), 25)
            for low, high in (((0, 1), (1, 1)), ((0, 1), (0, 1)), (None, None), bounds[-1]):
                refused(NoTube, funnel.put, low, high)
            self.assertEqual((funnel.tube(), funnel.settled()), (told, touches))
            self.assertEqual(len(funnel.cord_to(told[-1][1])), 25)

    def test_what_is_no_place_changes_nothing(self):
        places = tied([(0, 0), (1, 2), (0, Fraction(1, 2)), (3, 4), (0, 1), (2, 2)])
        plain, funnel = Funnel((0, 1)), Funnel((0, 1))
        for low, high in places[1:]:
            for thing in no_numbers():
                refused(NoTube, funnel.put, thing, high)
                refused(NoTube, funnel.put, low, thing)
                refused(NoTube, funnel.put, thing, thing)
            for less, more in (((1, 1), (0, 1)), ((1, 2), (1, 3)), ((0, 1), (-1, 10 ** 6)), ((10 ** 9, 1), (-10 ** 9, 1))):
                refused(NoTube, funnel.put, less, more)
            self.assertEqual(funnel.tube(), plain.tube())
            self.assertEqual(funnel.settled(), plain.settled())
            self.assertEqual(funnel.put(low, high), plain.put(low, high))
        self.assertEqual(funnel.cord_to((2, 1)), cord(places))

    def test_low_and_high_alike(self):
        funnel = Funnel((0, 1))
        self.assertEqual(funnel.put((1, 2), (1, 2)), ())
        self.assertEqual(funnel.put((1, 2), (1, 2)), ((1, (1, 2)),))
