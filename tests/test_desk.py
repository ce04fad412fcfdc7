import re
import unittest
from fractions import Fraction
from unittest import mock

from levelcord import desk as desks
from levelcord.cords import bends, cord
from levelcord.cordtexts import read_row, read_tube, show_row, show_tube
from levelcord.desk import Desk
from levelcord.errors import CordError, NoCall, NoKept, NoPrice, NoRow, NoText, NoTube
from levelcord.looseends import loose_cord
from levelcord.numbertexts import read_number, show_number
from levelcord.rings import is_ring, ring_cord
from levelcord.smoothing import smoothed
from levelcord.stairs import stair
from levelcord.tubes import is_row, is_tied
from tests.helper import (
    drawn, drawn_data, drawn_open_tubes, drawn_price, drawn_rows, drawn_tubes, num, refused, steps_of, strange,
)

ROW_WORDS = ("tube", "data", "show", "cord", "loose", "ring", "bends", "level", "smooth", "stair", "paper")
TUBE = "0, 1..2, 0..1/2, 3"
NAMES = ("a", "z", "abcdefgh", "cord", "tube", "paper", "data", "none", "ok")


def told(*rows):
    """A desk that was told rows."""
    desk = Desk()
    for row in rows:
        desk.say(row)
    return desk


class Desks(unittest.TestCase):
    def answers(self, desk, *pairs):
        for row, answer in pairs:
            self.assertEqual(repr(desk.say(row)), repr(answer), row)

    def refuses(self, desk, error, said, /, **fields):
        caught = refused(error, desk.say, said)
        self.assertEqual(repr(vars(caught)), repr(fields), said)


class TestAnswers(Desks):
    def test_every_kind_of_row(self):
        self.answers(
            Desk(), ("paper", "none"), (f"tube a {TUBE}", "ok"), ("show a", TUBE), ("cord a", "0 1 1/2 3"),
            ("bends a", "1 down, 2 up"), ("level a 0 2 0 3", "19/2"), ("level a 0 1 1/2 3", "taut"), ("paper", "holds"),
            ("tube b 0..1, 2..3, 0..9, -1..0", "ok"), ("loose b", "1 2 1 0"), ("ring b", "1 2 1 0"), ("paper", "holds"),
            ("data c 0 6 0", "ok"), ("show c", "0 6 0"), ("smooth c 1", "1 4 1"), ("smooth c 1/2", "1/2 5 1/2"),
            ("stair c", "0 2"), ("paper", "holds"), ("data c 5", "ok"), ("stair c", "0"), ("smooth c 7/3", "5"),
            ("tube d 0, 1, 2", "ok"), ("bends d", "none"), ("cord d", "0 1 2"), ("level d 0 1 2", "taut"),
            ("show a", TUBE), ("paper", "holds"),
        )

    def test_drawn_tubes(self):
        source = drawn(220)
        for draw in (drawn_tubes, drawn_open_tubes):
            for tube in draw(220, 6, (2, 3, 4, 9, 24, 25)):
                desk = Desk()
                self.answers(desk, (f"tube x {show_tube(tube)}", "ok"), ("show x", show_tube(tube)))
                self.answers(desk, ("loose x", show_row(loose_cord(tube))), ("paper", "holds"))
                if is_ring(tube):
                    self.answers(desk, ("ring x", show_row(ring_cord(tube))), ("paper", "holds"))
                else:
                    self.refuses(desk, NoTube, "ring x")
                rows = drawn_rows(source, tube, 1)
                if is_tied(tube):
                    self.tied(desk, tube, rows)
                else:
                    for row in ("cord x", "bends x", f"level x {show_row(rows[-1])}", "level x 0"):
                        self.refuses(desk, NoTube, row)

    def tied(self, desk, tube, rows):
        best = cord(tube)
        ways = ", ".join(f"{place} {way}" for place, way in bends(best))
        self.answers(desk, ("cord x", show_row(best)), ("paper", "holds"), ("bends x", ways or "none"))
        for row in rows + [best]:
            more = sum(step ** 2 for step in steps_of(row)) - sum(step ** 2 for step in steps_of(best))
            self.answers(desk, (f"level x {show_row(row)}", show_number(num(more)) if more else "taut"))
            self.assertEqual(more == 0, row == best)

    def test_drawn_data(self):
        source = drawn(221)
        for many in range(1, 25):
            data = drawn_data(source, many)
            price = drawn_price(source, data)
            self.answers(
                Desk(), (f"data x {show_row(data)}", "ok"), ("show x", show_row(data)),
                (f"smooth x {show_number(price)}", show_row(smoothed(data, price))), ("paper", "holds"),
                ("stair x", " ".join(show_number(one) for one, row in stair(data))), ("paper", "holds"))

    def test_names(self):
        for name in NAMES:
            self.answers(Desk(), (f"tube {name} 0, 1", "ok"), (f"cord {name}", "0 1"), (f"show {name}", "0, 1"))
        desk = told(*(f"data {name} {at}" for at, name in enumerate(NAMES)))
        self.answers(desk, *((f"show {name}", str(at)) for at, name in enumerate(NAMES)))

    def test_kept_anew(self):
        desk = told("tube a 0, 1")
        self.answers(desk, ("tube a 0, 2", "ok"), ("show a", "0, 2"), ("cord a", "0 2"))
        self.answers(desk, ("data a 3 4", "ok"), ("show a", "3 4"), ("stair a", "0 1/2"))
        for row in ("cord a", "loose a", "ring a", "bends a", "level a 0 2"):
            self.refuses(desk, NoKept, row, name="a")
        self.answers(desk, ("tube a 5, 6", "ok"), ("show a", "5, 6"), ("cord a", "5 6"))
        for row in ("smooth a 1", "stair a"):
            self.refuses(desk, NoKept, row, name="a")
        # what is kept anew leaves the last claim as it was
        self.answers(desk, ("data a 1", "ok"), ("paper", "holds"))

    def test_two_desks_side_by_side(self):
        one, other = Desk(), Desk()
        self.answers(one, ("tube a 0, 1", "ok"), ("cord a", "0 1"), ("paper", "holds"))
        self.answers(other, ("paper", "none"))
        self.refuses(other, NoKept, "show a", name="a")
        self.answers(other, ("data a 7", "ok"), ("show a", "7"), ("paper", "none"))
        self.answers(one, ("show a", "0, 1"), ("paper", "holds"))


class TestPaper(Desks):
    def test_behind_each_row(self):
        for row in ("cord a", "loose a", "ring a", "smooth b 1", "stair b"):
            desk = told("tube a 0, 2..3, 1", "data b 0 4")
            self.answers(desk, ("paper", "none"), ("show a", "0, 2..3, 1"), ("bends a", "1 down"), ("level a 0 2 1", "taut"))
            self.answers(desk, ("level a 0 3 1", "8"), ("show b", "0 4"), ("tube c 0, 1", "ok"), ("data d 1", "ok"))
            self.answers(desk, ("paper", "none"))
            desk.say(row)
            self.answers(desk, ("paper", "holds"), ("paper", "holds"), ("bends a", "1 down"), ("level a 0 3 1", "8"))
            self.answers(desk, ("show a", "0, 2..3, 1"), ("tube a 0, 1", "ok"), ("data b 1", "ok"), ("paper", "holds"))

    def test_as_it_was_behind_refusals(self):
        rows = ("cord z", "cord b", "ring c", "cord d", "smooth b -1", "smooth b x", "smooth a 1", "stair a", "stair", "x",
                "loose z", "loose b", None, "tube a x", "data b x", "level a 0 1 1", "paper ", "level a x")
        desk = told("tube a 0, 2..3, 1", "data b 0 4", "tube c 0, 1", "tube d 0..1, 2, 3")
        for row in rows:
            refused_by_any(desk, row)
            self.answers(desk, ("paper", "none"))
        desk.say("cord a")
        last = desk.last
        for row in rows:
            refused_by_any(desk, row)
            self.assertIs(desk.last, last)
            self.answers(desk, ("paper", "holds"), ("show a", "0, 2..3, 1"), ("show b", "0 4"), ("show c", "0, 1"))

    def test_the_checker_is_asked_of_the_last_claim(self):
        asked = []

        def no(claim, paper):
            asked.append((claim, paper))
            return False

        desk = told("tube a 0, 2..3, 1", "data b 0 4")
        tube, data = read_tube("0, 2..3, 1"), read_row("0 4")
        claims = {
            "cord a": ("taut", tube, cord(tube)), "loose a": ("loose", tube, loose_cord(tube)),
            "ring a": ("ring", tube, ring_cord(tube)), "smooth b 1": ("smooth", data, (1, 1), smoothed(data, (1, 1))),
            "stair b": ("stair", data, stair(data)),
        }
        with mock.patch.object(desks, "holds", no):
            self.answers(desk, ("paper", "none"))
            self.assertEqual(asked, [])
            for row, claim in claims.items():
                desk.say(row)
                self.answers(desk, ("paper", "no"))
                self.assertEqual(asked.pop(), (claim, None))
        self.answers(desk, ("paper", "holds"))


def refused_by_any(desk, row):
    try:
        answer = desk.say(row)
    except CordError:
        return
    raise AssertionError(f"{row!r} was answered with {answer!r}")


class TestNoCall(Desks):
    def setUp(self):
        self.desk = told("tube a 0, 2..3, 1", "data b 0 4")

    def test_other_first_words(self):
        for row in ("", " ", "x", "Cord a", "cords a", "cor a", "tubes a 0, 1", " cord a", "\tcord a", "cord\ta", "paper\n",
                    "Paper", "holds a", "a", "a cord", "cord,a", "paper.", "none"):
            self.refuses(self.desk, NoCall, row, row=row)

    def test_other_numbers_of_words(self):
        for word in ROW_WORDS[:-1]:
            for row in (word, f"{word} ", f"{word}  ", f"{word}  a", f" {word} a", f" {word} a 1"):
                self.refuses(self.desk, NoCall, row, row=row)
        for word in ("show", "cord", "loose", "ring", "bends", "stair"):
            for row in (f"{word} a ", f"{word} a b", f"{word} a 1", f"{word} a b c"):
                self.refuses(self.desk, NoCall, row, row=row)
        for row in ("tube", "data", "level", "tube a", "data b", "level a", "tube ", "data ", "tube a\t0, 1", "smooth", "smooth b",
                    "smooth b 1 ", "smooth b 1 2", "smooth  b 1", "smooth b  1", " smooth b 1", "paper ", "paper a", " paper"):
            self.refuses(self.desk, NoCall, row, row=row)

    def test_names_that_are_none(self):
        for name in ("", "A", "aB", "a1", "1", "abcdefghi", "a_b", "a-b", "a\t", "\n", "a,", "\u00e9", "\u00df", "\u0430"):
            for row in (f"tube {name} 0, 1", f"data {name} 1", f"show {name}", f"cord {name}", f"loose {name}",
                        f"ring {name}", f"bends {name}", f"level {name} 0 1", f"smooth {name} 1", f"stair {name}",
                        f"tube {name} x", f"level {name} x", f"smooth {name} x", f"data {name} "):
                self.refuses(self.desk, NoCall, row, row=row)

    def test_what_is_no_text(self):
        for thing in strange() + [["cord", "a"], ("cord", "a"), b"cord a", {"cord": "a"}]:
            if not isinstance(thing, str):
                self.refuses(self.desk, NoCall, thing, row=thing)

    def test_nothing_was_changed(self):
        for row in ("tube  0, 1", "tube A 0, 1", "data a", "data aaaaaaaaa 1", "data\tb 3", "tube b", "paper x"):
            self.refuses(self.desk, NoCall, row, row=row)
        self.answers(self.desk, ("show a", "0, 2..3, 1"), ("show b", "0 4"), ("paper", "none"))


class TestNoKept(Desks):
    def test_nothing_or_the_other_kind(self):
        desk = told("tube a 0, 2..3, 1", "data b 0 4")
        for name in ("c", "aa", "cord", "b"):
            for row in (f"cord {name}", f"loose {name}", f"ring {name}", f"bends {name}", f"level {name} 0 1", f"level {name} x",
                        f"level {name} ", f"level {name} 0  1"):
                self.refuses(desk, NoKept, row, name=name)
        for name in ("c", "aa", "cord", "a"):
            for row in (f"smooth {name} 1", f"smooth {name} x", f"smooth {name} -1", f"smooth {name} ", f"stair {name}"):
                self.refuses(desk, NoKept, row, name=name)
        self.refuses(desk, NoKept, "show c", name="c")

    def test_what_was_refused_is_not_kept(self):
        desk = Desk()
        for row in ("tube a 0", "tube a 0, x", "data a", "data a x", "data a "):
            refused_by_any(desk, row)
            self.refuses(desk, NoKept, "show a", name="a")


class TestNoText(Desks):
    def test_tubes_and_data(self):
        desk = told("tube a 0, 1", "data b 7")
        for text, part in (("", 0), ("0", 1), ("x", 0), ("0, ", 1), ("0, 3..3", 1), ("0, 1, 4..3", 2), (" 0, 1", 0), ("0, 1 ", 1),
                           ("0,1", 0), (", ".join(["0"] * 26), 25), ("0,  1", 1), ("0\t, 1", 0), ("0, 1\n", 1)):
            for name in ("a", "b", "c"):
                self.refuses(desk, NoText, f"tube {name} {text}", part=part)
        for text, part in (("", 0), ("x", 0), ("0 ", 1), (" 0", 0), ("0  1", 1), ("0 2/4", 1), ("0, 1", 0), (" ".join(["0"] * 25), 24),
                           (" ".join(["0"] * 24 + ["x"]), 24), (" ".join(["0"] * 26), 24), (" ".join(["0"] * 23 + ["x"] * 9), 23)):
            for name in ("a", "b", "c"):
                self.refuses(desk, NoText, f"data {name} {text}", part=part)
        self.answers(desk, ("show a", "0, 1"), ("show b", "7"))
        self.refuses(desk, NoKept, "show c", name="c")
        self.answers(desk, (f"data c {' '.join(['0'] * 24)}", "ok"), (f"tube c {', '.join(['0'] * 25)}", "ok"))

    def test_rows_and_prices(self):
        desk = told("tube a 0, 2..3, 1", "tube d 0..1, 1", "data b 0 4")
        for text, part in (("", 0), ("x", 0), ("0 ", 1), (" 0", 0), ("0  1", 1), ("0 2/4 x", 1), (" ".join(["0"] * 26), 25)):
            # a text at fault comes ahead of a tube that isn't tied
            for name in ("a", "d"):
                self.refuses(desk, NoText, f"level {name} {text}", part=part)
        for text in ("", "x", "1/1", "2/4", "-0", "01", "1\n", "--1", "1.5"):
            self.refuses(desk, NoText, f"smooth b {text}", part=None)

    def test_then_as_the_functions_refuse(self):
        desk = told("tube a 0, 2..3, 1", "tube d 0..1, 1", "tube e 0, 1..2", "tube f 0..1, 2..3, 4..5", "data b 0 4")
        for name in ("d", "e", "f"):
            for row in (f"cord {name}", f"bends {name}", f"level {name} 0 1", f"level {name} 7"):
                self.refuses(desk, NoTube, row)
        for row in ("ring d", "ring e"):
            self.refuses(desk, NoTube, row)
        for text in ("0", "0 2", "0 2 1 0", "0 1 1", "0 4 1", "1 2 1", "0 2 0", " ".join(["0"] * 25)):
            self.refuses(desk, NoRow, f"level a {text}")
        for price in ("-1", "-1/1000000"):
            self.refuses(desk, NoPrice, f"smooth b {price}")
        self.answers(desk, ("smooth b 0", "0 4"), ("ring f", "1 5/2 4"))


class Model:
    """What a desk is to answer or refuse, by the words of the document, over the functions of the earlier stages."""

    def __init__(self):
        self.things, self.answered = {}, False

    def expected(self, row):
        words = row.split(" ")
        counts = {"show": 2, "cord": 2, "loose": 2, "ring": 2, "bends": 2, "smooth": 3, "stair": 2, "paper": 1}
        first = words[0]
        if first in ("tube", "data", "level"):
            words = [first, *row.split(" ")[1:2], *[" ".join(row.split(" ")[2:])] * (row.count(" ") >= 2)]
        if first not in ROW_WORDS or len(words) != counts.get(first, 3):
            return NoCall, {"row": row}
        if first == "paper":
            return "holds" if self.answered else "none"
        if not re.fullmatch("[a-z]{1,8}", words[1]):
            return NoCall, {"row": row}
        if first in ("tube", "data"):
            return self.keep(*words)
        kind, thing = self.things.get(words[1], (None, None))
        wanted = ("tube", "data") if first == "show" else ("data",) if first in ("smooth", "stair") else ("tube",)
        if kind not in wanted:
            return NoKept, {"name": words[1]}
        return self.asked(first, kind, thing, *words[2:])

    def keep(self, first, name, text):
        try:
            thing = read_tube(text) if first == "tube" else read_row(text)
        except NoText as wrong:
            part = wrong.part
            return NoText, {"part": min(part, 24) if first == "data" else part}
        if first == "data" and len(thing) == 25:
            return NoText, {"part": 24}
        self.things[name] = (first, thing)
        return "ok"

    def asked(self, first, kind, thing, text=None):
        if first == "show":
            return show_tube(thing) if kind == "tube" else show_row(thing)
        try:
            given = read_row(text) if first == "level" else read_number(text) if first == "smooth" else None
        except NoText as wrong:
            return NoText, {"part": wrong.part}
        if first in ("cord", "bends", "level") and not is_tied(thing) or first == "ring" and not is_ring(thing):
            return NoTube, {}
        if first == "level" and not is_row(thing, given):
            return NoRow, {}
        if first == "smooth" and given[0] < 0:
            return NoPrice, {}
        self.answered = self.answered or first not in ("bends", "level")
        return self.told(first, thing, given)

    def told(self, first, thing, given):
        if first == "bends":
            return ", ".join(f"{place} {way}" for place, way in bends(cord(thing))) or "none"
        if first == "level":
            more = sum(step ** 2 for step in steps_of(given)) - sum(step ** 2 for step in steps_of(cord(thing)))
            return show_number(num(Fraction(more))) if more else "taut"
        if first == "stair":
            return " ".join(show_number(price) for price, row in stair(thing))
        calls = {"cord": cord, "loose": loose_cord, "ring": ring_cord}
        return show_row(smoothed(thing, given) if first == "smooth" else calls[first](thing))


class TestDrawnRows(Desks):
    def drawn_row(self, source):
        word = source.choice(ROW_WORDS * 4 + ("", "x", "Tube"))
        name = source.choice(("a", "b", "c") * 5 + ("", "A", "abcdefghi", "tube"))
        texts = {
            "tube": ("0, 1", "0, 1..2, 0", "0, 1..2, 0, 5..6, 3", "0..1, 2..3, 0..1", "0..1, 2", "0, 1..1", "0", ", 1", "x"),
            "data": ("0 6 0", "1", "1 2", "0 3 1 4", "", "1  2", " ".join("1" * 24), " ".join("1" * 25), "1, 2", "x"),
            "level": ("0 1", "0 1 0", "0 3/2 0", "0 2 0", "0 3 0", "0 1 1 5 3", "", "x", "0 x 0"),
            "smooth": ("0", "1", "1/2", "100", "-1", "x", "", "2/4"),
        }
        words = [word] + [name] * (word != "paper") + [source.choice(texts[word]) for k in range(word in texts)]
        if source.random() < 0.08:
            words.insert(source.randint(0, len(words)), source.choice(("", "a", "1")))
        if source.random() < 0.05:
            words.pop(source.randrange(len(words)))
        return " ".join(words)

    def test_long_talks(self):
        seen = set()
        for seed in range(40):
            source = drawn(230 + seed)
            desk, model = Desk(), Model()
            for k in range(150):
                row = self.drawn_row(source)
                expected = model.expected(row)
                if isinstance(expected, str):
                    self.answers(desk, (row, expected))
                    seen.add((row.split(" ")[0], None))
                else:
                    self.refuses(desk, expected[0], row, **expected[1])
                    seen.add((row.split(" ")[0], expected[0]))
        for word in ROW_WORDS:
            self.assertIn((word, None), seen)
        for error in (NoCall, NoKept, NoText, NoTube, NoRow, NoPrice):
            self.assertTrue([word for word, refusal in seen if refusal is error])
