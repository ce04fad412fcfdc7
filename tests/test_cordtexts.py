import re
import unittest
from fractions import Fraction
from math import gcd

from levelcord.cordtexts import read_jobs, read_row, read_tube, show_jobs, show_row, show_tube
from levelcord.errors import NoText
from tests.helper import (
    all_jobs, drawn, drawn_data, drawn_open_tubes, drawn_tubes, frac, great_number, nums, open_tube, refused, strange,
)

NUMBER = re.compile(r"(0|-?[1-9][0-9]*)(?:/([1-9][0-9]*))?")
SIGNS = " ,;.-/+0123a\t\n"


class Wrong(Exception):
    """What isn't so, with the number of the part."""


def number_by_words(text):
    """The number that a text is, or None."""
    found = NUMBER.fullmatch(text)
    if found is None or found[2] == "1":
        return None
    one = (int(found[1]), int(found[2] or 1))
    return one if gcd(*one) == 1 else None


def row_by_words(text):
    row = []
    for at, part in enumerate(text.split(" ")):
        if number_by_words(part) is None or at == 25:
            raise Wrong(at)
        row.append(number_by_words(part))
    return tuple(row)


def tube_by_words(text):
    tube = []
    for at, part in enumerate(text.split(", ")):
        ends = [number_by_words(end) for end in part.split("..")]
        if None in ends or len(ends) > 2 or at == 25:
            raise Wrong(at)
        if len(ends) == 2 and frac(ends[0]) >= frac(ends[1]):
            raise Wrong(at)
        tube.append((ends[0], ends[-1]))
    if len(tube) == 1:
        raise Wrong(1)
    return tuple(tube)


def jobs_by_words(text):
    jobs = []
    for at, part in enumerate(text.split("; ")):
        found = re.fullmatch(r"(0|[1-9][0-9]*) (0|[1-9][0-9]*) (\S+)", part)
        work = number_by_words(found[3]) if found else None
        if work is None or frac(work) <= 0 or at == 12:
            raise Wrong(at)
        arrival, due = int(found[1]), int(found[2])
        if arrival >= due or due > 24 or jobs and (arrival < jobs[-1][0] or due < jobs[-1][1]):
            raise Wrong(at)
        jobs.append((arrival, due, work))
    return tuple(jobs)


def texts_otherwise(text):
    """The text with one sign, or one word, more, fewer or otherwise at every place."""
    for at in range(len(text) + 1):
        yield text[:at]
        yield text[at:]
        yield text[:at] + text[at + 1:]
        for sign in SIGNS:
            yield text[:at] + sign + text[at:]
            yield text[:at] + sign + text[at + 1:]
    for sign in (" ", ", ", "; ", ".."):
        words = text.split(sign)
        for at in range(len(words)):
            yield sign.join(words[:at] + words[at + 1:])
            yield sign.join(words[:at] + words[at:at + 1] + words[at:])
            for word in ("", "x", "2/4", "5/1", "-0", "00", "0", "-1", "25", "7", "3..3", "4..3"):
                yield sign.join(words[:at] + [word] + words[at:])
                yield sign.join(words[:at] + [word] + words[at + 1:])


class Texts(unittest.TestCase):
    def asked(self, read, show, by_words, text):
        """Checks that a text is read, or refused, as the words tell; tells whether it is read."""
        try:
            wanted = by_words(text)
        except Wrong as wrong:
            self.assertEqual(refused(NoText, read, text).part, wrong.args[0], repr(text))
            return False
        self.assertEqual(repr(read(text)), repr(wanted), repr(text))
        self.assertEqual(show(wanted), text)
        return True

    def wrong(self, read, text, part):
        found = refused(NoText, read, text).part
        self.assertEqual(repr(found), repr(part), repr(text))

    def both_ways(self, read, show, thing):
        text = show(thing)
        self.assertIs(text.__class__, str)
        self.assertEqual(repr(read(text)), repr(thing))
        self.assertEqual(show(read(text)), text)
        return text

    def test_what_is_no_text(self):
        for read in (read_row, read_tube, read_jobs):
            for thing in strange() + [["1"], ("1", "2"), b"1 2", nums((1, 2)), bytearray(b"1")]:
                if not isinstance(thing, str):
                    self.wrong(read, thing, None)


class TestRows(Texts):
    def test_written(self):
        self.assertEqual(show_row(nums((1, Fraction(-3, 2), 0))), "1 -3/2 0")
        self.assertEqual(read_row("1 -3/2 0"), nums((1, Fraction(-3, 2), 0)))
        self.assertEqual(show_row(nums((7,))), "7")
        self.assertEqual(read_row("7"), nums((7,)))

    def test_both_ways(self):
        source = drawn(210)
        for many in range(1, 26):
            for k in range(4):
                row = drawn_data(source, many)
                self.assertTrue(self.asked(read_row, show_row, row_by_words, self.both_ways(read_row, show_row, row)))

    def test_one_to_25(self):
        for many in range(1, 26):
            self.assertEqual(len(read_row(" ".join(["1/2"] * many))), many)
        self.wrong(read_row, "", 0)
        for many in (26, 27, 60):
            self.wrong(read_row, " ".join(["0"] * many), 25)

    def test_whichever_comes_first(self):
        words = ["0"] * 30
        for at in range(30):
            self.wrong(read_row, " ".join(words[:at] + ["x"] + words[at + 1:]), min(at, 25))
        self.wrong(read_row, "1 2/4 x", 1)
        self.wrong(read_row, "x 2/4", 0)
        self.wrong(read_row, "1  2", 1)
        self.wrong(read_row, " 1", 0)
        self.wrong(read_row, "1 ", 1)
        self.wrong(read_row, "1\t2", 0)
        self.wrong(read_row, "1\n", 0)
        self.wrong(read_row, "0 1\n", 1)
        self.wrong(read_row, "1, 2", 0)

    def test_put_otherwise(self):
        good = 0
        for text in ("1", "0 -1/2", "10 -3/2 7/10 0", " ".join(["12"] * 25)):
            for other in texts_otherwise(text):
                good += self.asked(read_row, show_row, row_by_words, other)
        self.assertGreater(good, 100)


class TestTubes(Texts):
    def test_written(self):
        tube = open_tube([(0, 0), (Fraction(-1, 2), 3), (Fraction(7, 3), Fraction(7, 3)), (-2, -1)])
        self.assertEqual(show_tube(tube), "0, -1/2..3, 7/3, -2..-1")
        self.assertEqual(read_tube("0, -1/2..3, 7/3, -2..-1"), tube)

    def test_both_ways(self):
        for draw in (drawn_open_tubes, drawn_tubes):
            for tube in draw(211, 20, (2, 3, 4, 9, 24, 25)):
                self.asked(read_tube, show_tube, tube_by_words, self.both_ways(read_tube, show_tube, tube))

    def test_2_to_25(self):
        for many in range(2, 26):
            self.assertEqual(len(read_tube(", ".join(["0..1"] * many))), many)
        self.wrong(read_tube, "", 0)
        for text in ("3", "0..1", "-1/2"):
            self.wrong(read_tube, text, 1)
        for many in (26, 27, 60):
            self.wrong(read_tube, ", ".join(["0"] * many), 25)

    def test_alike_or_low_above_high(self):
        for part in ("3..3", "4..3", "0..-1", "1/2..1/3", "3..", "..3", "..", "3...4", "3.4", "3..4..5", "0..0", "", "x"):
            self.wrong(read_tube, part, 0)
            self.wrong(read_tube, part + ", 0", 0)
            self.wrong(read_tube, "0, " + part, 1)
            self.wrong(read_tube, "0, 1, " + part + ", 3", 2)
            self.wrong(read_tube, ", ".join(["0"] * 24 + [part]), 24)
            self.wrong(read_tube, ", ".join(["0"] * 25 + [part]), 25)
            self.wrong(read_tube, ", ".join(["0"] * 26 + [part]), 25)

    def test_of_two_the_first(self):
        self.wrong(read_tube, "0, 3..3, x", 1)
        self.wrong(read_tube, "0,1, 4..3", 0)
        self.wrong(read_tube, "0, 1, ", 2)
        self.wrong(read_tube, ", 0", 0)
        self.wrong(read_tube, "0; 1", 0)
        self.wrong(read_tube, "0 1", 0)
        self.wrong(read_tube, "0,\n1", 0)
        self.wrong(read_tube, "0,  1", 1)
        self.wrong(read_tube, "0 , 1", 0)
        self.wrong(read_tube, "0 ..1, 1", 0)

    def test_put_otherwise(self):
        good = 0
        for text in ("0, 1", "0, -1/2..3, 7/3", "1..2, 10..12, 0", ", ".join(["0..1"] * 25)):
            for other in texts_otherwise(text):
                good += self.asked(read_tube, show_tube, tube_by_words, other)
        self.assertGreater(good, 100)


class TestJobs(Texts):
    def test_written(self):
        jobs = ((0, 2, (4, 1)), (1, 5, (1, 3)), (3, 5, (3, 1)))
        self.assertEqual(show_jobs(jobs), "0 2 4; 1 5 1/3; 3 5 3")
        self.assertEqual(read_jobs("0 2 4; 1 5 1/3; 3 5 3"), jobs)

    def test_both_ways(self):
        for jobs in all_jobs(212, 10):
            self.asked(read_jobs, show_jobs, jobs_by_words, self.both_ways(read_jobs, show_jobs, jobs))

    def test_1_to_12(self):
        for many in range(1, 13):
            self.assertEqual(len(read_jobs("; ".join(["0 1 1/2"] * many))), many)
        self.wrong(read_jobs, "", 0)
        for many in (13, 14, 40):
            self.wrong(read_jobs, "; ".join(["0 1 1/2"] * many), 12)

    def test_jobs_that_are_none(self):
        for part in ("1 1 1", "2 1 1", "0 25 1", "24 25 1", "0 1 0", "0 1 -1", "-1 1 1", "00 1 1", "0 01 1", "0 1 01", "0 1",
                     "0 1 1 1", "0  1 1", " 0 1 1", "0 1 1 ", "0 1 2/4", "0 1 x", "x 1 1", "0 x 1", "0 1/2 1", "1/2 1 1",
                     "-0 1 1", "+0 1 1", "0 1 1;", "", "0\t1 1", "0 1 1\n", "0 2/1 1", "0 -1 1", "0 3/2 1"):
            self.wrong(read_jobs, part, 0)
            self.wrong(read_jobs, part + "; 0 1 1", 0)
            self.wrong(read_jobs, "0 1 1; " + part, 1)
            self.wrong(read_jobs, "; ".join(["0 1 1"] * 11 + [part]), 11)
            self.wrong(read_jobs, "; ".join(["0 1 1"] * 13 + [part]), 12)

    def test_arrivals_and_dues_that_fall(self):
        self.wrong(read_jobs, "1 3 1; 0 3 1", 1)
        self.wrong(read_jobs, "1 3 1; 1 2 1", 1)
        self.wrong(read_jobs, "1 3 1; 2 4 1; 1 5 1; x", 2)
        self.wrong(read_jobs, "1 3 1; x; 0 3 1", 1)
        self.assertEqual(read_jobs("1 3 1; 1 3 1; 23 24 1"), ((1, 3, (1, 1)), (1, 3, (1, 1)), (23, 24, (1, 1))))

    def test_put_otherwise(self):
        good = 0
        for text in ("0 1 1", "0 2 4; 1 5 1/3; 3 5 3", "10 20 -1", "3 11 7/10; 12 24 3", "; ".join(["0 1 1"] * 12)):
            for other in texts_otherwise(text):
                good += self.asked(read_jobs, show_jobs, jobs_by_words, other)
        self.assertGreater(good, 100)


class TestGreatNumbers(Texts):
    def test_both_ways(self):
        source = drawn(213)
        for k in range(100):
            row = tuple(great_number(source) for k in range(25))
            self.both_ways(read_row, show_row, row)
            self.both_ways(read_tube, show_tube, tuple((one, one) for one in row))
