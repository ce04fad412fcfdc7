"""Cords with loose ends: rows that are taut without being tied anywhere."""

from levelcord.cords import bends_from, has_touches, taut_row
from levelcord.numbers import NOUGHT, greatest_of
from levelcord.tubes import differences, is_row, want_tube


def highest_low(tube):
    """Tells the first place of a tube with the greatest low."""
    lows = [low for low, high in tube]
    return lows.index(greatest_of(lows))


def mirrored(tube, begin):
    """Tells the places from one back to the first, from there to the last, and back again, tied to its low."""
    back = list(reversed(tube[:begin + 1]))
    again = list(reversed(tube[begin:]))
    low = tube[begin][0]
    back[0] = again[-1] = (low, low)
    return back + list(tube) + again


def loose_cord(tube):
    """Tells a row that is taut with loose ends, the least level one, if any is; what is no tube is refused."""
    want_tube(tube)
    # The row goes through each greatest low, and stays level there where this height is in all bounds.
    # In a mirror at each end it goes level from that end to its image, so a taut row between the two images
    # of one such place is taut with loose ends between the mirrors.
    begin = highest_low(tube)
    return taut_row(mirrored(tube, begin))[begin + 1:begin + 1 + len(tube)]


def is_loosely_taut(tube, row):
    """Tells whether a thing of any kind is a row of a tube and taut with loose ends; what is no tube is refused."""
    if not is_row(tube, row):
        return False
    # what is asked of loose ends is what a bend asks where a level step stands ahead of and behind the row
    return has_touches(tube, row, bends_from(0, differences(row) + (NOUGHT,)))
