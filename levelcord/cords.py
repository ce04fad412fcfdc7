"""The cord: the one taut row of a tied tube."""

from levelcord.numbers import added, is_less, multiplied, parted, taken
from levelcord.tubes import is_row, steps, want_tied


def rise(begin, height, at, other_height):
    """Tells how steeply a line goes from the begin's height to another one at a later place."""
    return parted(taken(other_height, height), (at - begin, 1))


def next_touch(places, begin, height):
    """Tells the next touch (place, height) behind a place on the cord and the place that shows it, or None."""
    if begin + 1 == len(places):
        return None
    low_at = high_at = begin + 1
    steepest_low = rise(begin, height, low_at, places[low_at][0])
    flattest_high = rise(begin, height, high_at, places[high_at][1])
    for at in range(begin + 2, len(places)):
        to_low = rise(begin, height, at, places[at][0])
        to_high = rise(begin, height, at, places[at][1])
        if is_less(flattest_high, to_low):
            return ((high_at, places[high_at][1]), at)
        if is_less(to_high, steepest_low):
            return ((low_at, places[low_at][0]), at)
        # of several on one line the last one: at those ahead of it the cord goes straight on
        if not is_less(to_low, steepest_low):
            low_at, steepest_low = at, to_low
        if not is_less(flattest_high, to_high):
            high_at, flattest_high = at, to_high
    return None


def straight_on(begin, height, touch):
    """Tells the heights of a straight line at the places behind its begin, up to a touch."""
    at, other_height = touch
    climb = rise(begin, height, at, other_height)
    return [added(height, multiplied(climb, (many, 1))) for many in range(1, at - begin + 1)]


def taut_row(places):
    """Tells the taut row between the bounds of places, however many, alike at the first and at the last one."""
    end = (len(places) - 1, places[-1][0])
    row = [places[0][0]]
    while len(row) < len(places):
        begin, height = len(row) - 1, row[-1]
        shown = next_touch(places, begin, height)
        row.extend(straight_on(begin, height, end if shown is None else shown[0]))
    return tuple(row)


def cord(tube):
    """Tells the cord of a tied tube; what is none is refused with NoTube."""
    want_tied(tube)
    return taut_row(tube)


def bends_from(begin, climbs):
    """Tells the bends at the places from a first one on, the steps that lead on from each place given.

    The step that leads to place 0 is the last one.
    """
    told = []
    for at in range(begin, len(climbs)):
        if is_less(climbs[at - 1], climbs[at]):
            told.append((at, "up"))
        elif is_less(climbs[at], climbs[at - 1]):
            told.append((at, "down"))
    return tuple(told)


def bends(row):
    """Tells the places at which a row bends, each with its way; what is no row is refused with NoRow."""
    return bends_from(1, steps(row))


def has_touches(tube, row, bent):
    """Tells whether a row has the high at each of its bends up, the low at each down."""
    return all([row[at] == tube[at][1 if way == "up" else 0] for at, way in bent])


def is_taut(tube, row):
    """Tells whether a thing of any kind is the taut row of a tied tube; what is none is refused with NoTube."""
    want_tied(tube)
    return is_row(tube, row) and has_touches(tube, row, bends(row))
