"""The cord: the one taut row of a tied tube."""

from levelcord.numbers import added, is_less, multiplied, parted, taken
from levelcord.tubes import is_row, steps, want_tied


def rise(begin, height, at, other_height):
    """Tells how steeply a line goes from the begin's height to another one at a later place."""
    return parted(taken(other_height, height), (at - begin, 1))


def next_touch(tube, begin, height):
    """Tells (place, height) of the cord's next bend behind a place on it, or of its end."""
    low_at = high_at = begin + 1
    steepest_low = rise(begin, height, low_at, tube[low_at][0])
    flattest_high = rise(begin, height, high_at, tube[high_at][1])
    for at in range(begin + 2, len(tube)):
        to_low = rise(begin, height, at, tube[at][0])
        to_high = rise(begin, height, at, tube[at][1])
        if is_less(flattest_high, to_low):
            return (high_at, tube[high_at][1])
        if is_less(to_high, steepest_low):
            return (low_at, tube[low_at][0])
        # of several on one line the last one: at those ahead of it the cord goes straight on
        if not is_less(to_low, steepest_low):
            low_at, steepest_low = at, to_low
        if not is_less(flattest_high, to_high):
            high_at, flattest_high = at, to_high
    return (len(tube) - 1, tube[-1][0])


def straight_on(begin, height, touch):
    """Tells the heights of a straight line at the places behind its begin, up to a touch."""
    at, other_height = touch
    climb = rise(begin, height, at, other_height)
    return [added(height, multiplied(climb, (many, 1))) for many in range(1, at - begin + 1)]


def cord(tube):
    """Tells the cord of a tied tube; what is none is refused with NoTube."""
    want_tied(tube)
    row = [tube[0][0]]
    while len(row) < len(tube):
        begin, height = len(row) - 1, row[-1]
        row.extend(straight_on(begin, height, next_touch(tube, begin, height)))
    return tuple(row)


def bends(row):
    """Tells the places at which a row bends, each with its way; what is no row is refused with NoRow."""
    climbs = steps(row)
    told = []
    for at in range(1, len(climbs)):
        if is_less(climbs[at - 1], climbs[at]):
            told.append((at, "up"))
        elif is_less(climbs[at], climbs[at - 1]):
            told.append((at, "down"))
    return tuple(told)


def has_touch(tube, row, bend):
    """Tells whether a row has the high where it bends up, the low where it bends down."""
    at, way = bend
    low, high = tube[at]
    return row[at] == (high if way == "up" else low)


def is_taut(tube, row):
    """Tells whether a thing of any kind is the taut row of a tied tube; what is none is refused with NoTube."""
    want_tied(tube)
    return is_row(tube, row) and all([has_touch(tube, row, bend) for bend in bends(row)])
