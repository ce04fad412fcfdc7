"""Tubes, their rows, and the steps of rows."""

from levelcord.errors import NoNumber, NoRow, NoTube
from levelcord.numbers import NOUGHT, added, is_less, is_number, taken

MOST_PLACES = 25


def are_numbers(thing, least, most):
    """Tells whether a thing of any kind is a tuple of numbers, from the least to the most many."""
    if not isinstance(thing, tuple) or not least <= len(thing) <= most:
        return False
    return all([is_number(part) for part in thing])


def are_steps(thing):
    """Tells whether a thing of any kind is steps."""
    return are_numbers(thing, 1, MOST_PLACES - 1)


def is_place(thing):
    """Tells whether a thing of any kind is a place's (low, high), low at most high."""
    return are_numbers(thing, 2, 2) and not is_less(thing[1], thing[0])


def is_tube(thing):
    """Tells whether a thing of any kind is a tube."""
    if not isinstance(thing, tuple) or not 2 <= len(thing) <= MOST_PLACES:
        return False
    return all([is_place(part) for part in thing])


def is_tied(thing):
    """Tells whether a thing of any kind is a tied tube."""
    return is_tube(thing) and thing[0][0] == thing[0][1] and thing[-1][0] == thing[-1][1]


def is_within(place, height):
    """Tells whether a number is from a place's low to its high."""
    low, high = place
    return not is_less(height, low) and not is_less(high, height)


def is_row(tube, thing):
    """Tells whether a thing of any kind is a row of a tube; what is no tube is refused with NoTube."""
    want_tube(tube)
    if not are_numbers(thing, len(tube), len(tube)):
        return False
    return all([is_within(place, height) for place, height in zip(tube, thing)])


def want_tube(tube):
    """Refuses what is no tube with NoTube."""
    if not is_tube(tube):
        raise NoTube("this is no tube")


def want_tied(tube):
    """Refuses what is no tied tube with NoTube."""
    if not is_tied(tube):
        raise NoTube("this is no tied tube")


def want_steps(thing):
    """Refuses what is no steps with NoRow."""
    if not are_steps(thing):
        raise NoRow("these are no steps")


def differences(row):
    """Tells each number of a row less the one ahead of it."""
    return tuple([taken(row[at], row[at - 1]) for at in range(1, len(row))])


def steps(row):
    """Tells the steps of a row; what is no row without a tube is refused with NoRow."""
    if not are_numbers(row, 2, MOST_PLACES):
        raise NoRow("this is no row")
    return differences(row)


def row_of(first, steps):
    """Tells the row that begins with a number and has these steps; refused are NoNumber, then NoRow."""
    if not is_number(first):
        raise NoNumber("the first one is no number")
    want_steps(steps)
    row = [first]
    for step in steps:
        row.append(added(row[-1], step))
    return tuple(row)


def tube_round_sums(numbers, below, above):
    """Tells the tube of the sums of the first numbers, so much below and above them, at both ends just these."""
    sums = row_of(NOUGHT, numbers)
    places = [(taken(height, below), added(height, above)) for height in sums]
    places[0] = (sums[0], sums[0])
    places[-1] = (sums[-1], sums[-1])
    return tuple(places)
