"""Rings: tubes whose first place stands behind the last one, too."""

from levelcord.cords import bends_from, has_touches, taut_row
from levelcord.errors import NoRow, NoTube
from levelcord.looseends import highest_low
from levelcord.tubes import are_numbers, differences, is_row, is_tube

LEAST_PLACES = 3
MOST_PLACES = 24


def is_ring(thing):
    """Tells whether a thing of any kind is a ring."""
    return is_tube(thing) and LEAST_PLACES <= len(thing) <= MOST_PLACES


def want_ring(tube):
    """Refuses what is no ring with NoTube."""
    if not is_ring(tube):
        raise NoTube("this is no ring")


def ring_steps(row):
    """Tells the steps of a row round a ring, the last one back to its first place; refused is NoRow."""
    if not are_numbers(row, LEAST_PLACES, MOST_PLACES):
        raise NoRow("this is no row of a ring")
    return differences(row + row[:1])


def ring_cord(tube):
    """Tells a row that is taut round a ring, the least level one, if any is; what is no ring is refused."""
    want_ring(tube)
    # the row goes through each greatest low, and stays level there where this height is in all bounds;
    # so the ring may be cut and tied at one of them
    begin = highest_low(tube)
    low = tube[begin][0]
    row = taut_row(((low, low),) + tube[begin + 1:] + tube[:begin] + ((low, low),))
    end = len(tube) - begin
    return row[end:-1] + row[:end]


def is_ring_taut(tube, row):
    """Tells whether a thing of any kind is a row of a ring and taut round it; what is no ring is refused."""
    want_ring(tube)
    return is_row(tube, row) and has_touches(tube, row, bends_from(0, ring_steps(row)))
