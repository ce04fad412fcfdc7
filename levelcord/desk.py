"""The desk: keeps tubes and data by names, is told rows of words and answers each with a text."""

from levelcord.checker import holds
from levelcord.cords import bends, cord
from levelcord.cordtexts import read_data, read_row, read_tube, show_row, show_tube
from levelcord.errors import NoCall, NoKept
from levelcord.measures import squares
from levelcord.numbers import taken
from levelcord.numbertexts import read_number, show_number
from levelcord.papers import paper_loose, paper_ring, paper_smooth, paper_stair, paper_taut

LETTERS = "abcdefghijklmnopqrstuvwxyz"
LONGEST_NAME = 8
MANY_WORDS = {
    "tube": 3, "data": 3, "show": 2, "cord": 2, "loose": 2, "ring": 2, "bends": 2, "level": 3, "smooth": 3, "stair": 2,
    "paper": 1,
}
ENDS_WITH_TEXT = ("tube", "data", "level")
KINDS_ASKED = {
    "show": ("tube", "data"), "cord": ("tube",), "loose": ("tube",), "ring": ("tube",), "bends": ("tube",),
    "level": ("tube",), "smooth": ("data",), "stair": ("data",),
}


def is_name(word):
    """Tells whether a word is one to eight small letters."""
    return 1 <= len(word) <= LONGEST_NAME and all([sign in LETTERS for sign in word])


def words_of(row):
    """Tells the three words of a row, None for those that it hasn't; what is no row is refused with NoCall."""
    if not isinstance(row, str):
        raise NoCall(row)
    first = row.partition(" ")[0]
    # a text at the end holds blanks of its own
    words = row.split(" ", 2) if first in ENDS_WITH_TEXT else row.split(" ")
    if first not in MANY_WORDS or len(words) != MANY_WORDS[first]:
        raise NoCall(row)
    if len(words) > 1 and not is_name(words[1]):
        raise NoCall(row)
    return words + [None] * (3 - len(words))


def claim_cord(tube, text):
    """Tells claim and paper of the cord."""
    return paper_taut(tube, cord(tube))


def claim_loose(tube, text):
    """Tells claim and paper of the cord with loose ends."""
    return paper_loose(tube)


def claim_ring(tube, text):
    """Tells claim and paper of the cord round a ring."""
    return paper_ring(tube)


def claim_smooth(data, text):
    """Tells claim and paper of data smoothed at a price, as it is written."""
    return paper_smooth(data, read_number(text))


def claim_stair(data, text):
    """Tells claim and paper of the stair."""
    return paper_stair(data)


CLAIMS = {
    "cord": claim_cord, "loose": claim_loose, "ring": claim_ring, "smooth": claim_smooth, "stair": claim_stair,
}


def answer_of(claim):
    """Writes what a claim tells: of a stair the prices, else the row."""
    told = claim[-1]
    if claim[0] == "stair":
        return show_row([price for price, row in told])
    return show_row(told)


def bends_answer(tube):
    """Writes the bends of the cord."""
    told = bends(cord(tube))
    return ", ".join([f"{place} {way}" for place, way in told]) if told else "none"


def level_answer(tube, text):
    """Writes by how much the squares of a row are more than the cord's."""
    claim, best = paper_taut(tube, read_row(text))
    if claim[0] == "taut":
        return "taut"
    return show_number(taken(squares(claim[-1]), squares(best)))


class Desk:
    """Tubes and data kept by names, and the last claim answered."""

    def __init__(self):
        self.kept = {}
        self.last = None

    def say(self, row):
        """Takes a row and answers it; refused are NoCall, then NoKept, then NoText, then as the functions refuse."""
        word, name, text = words_of(row)
        if word == "paper":
            return self.paper_answer()
        if word in ("tube", "data"):
            self.kept[name] = (word, read_tube(text) if word == "tube" else read_data(text))
            return "ok"
        kind, thing = self.asked_of(word, name)
        if word in CLAIMS:
            claim_of = CLAIMS[word]
            self.last = claim_of(thing, text)
            return answer_of(self.last[0])
        if word == "bends":
            return bends_answer(thing)
        if word == "level":
            return level_answer(thing, text)
        return show_tube(thing) if kind == "tube" else show_row(thing)

    def asked_of(self, word, name):
        """Tells (kind, thing) of what is kept by a name and can be asked so; refused is NoKept."""
        if name not in self.kept or self.kept[name][0] not in KINDS_ASKED[word]:
            raise NoKept(name)
        return self.kept[name]

    def paper_answer(self):
        """Writes whether the checker takes the last claim with its paper."""
        if self.last is None:
            return "none"
        claim, paper = self.last
        return "holds" if holds(claim, paper) else "no"
