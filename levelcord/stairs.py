"""The stair of data: the smoothed rows at all prices."""

from levelcord.numbers import NOUGHT, added, is_less, least_of, multiplied, number, parted, taken
from levelcord.smoothing import want_data, want_price


def joined(runs):
    """Tells runs (height, how many numbers) with neighbours of one height made one."""
    told = []
    for height, many in runs:
        if told and told[-1][0] == height:
            told[-1] = (height, told[-1][1] + many)
        else:
            told.append((height, many))
    return told


def row_of_runs(runs):
    """Tells the row that is made of runs."""
    row = []
    for height, many in runs:
        row.extend([height] * many)
    return tuple(row)


def climb_of(runs, at):
    """Tells by how much a run climbs as the price grows by 1: each neighbour draws at all its numbers together."""
    height, many = runs[at]
    near = [other for other, others in runs[max(at - 1, 0):at + 2]]
    above = [other for other in near if is_less(height, other)]
    below = [other for other in near if is_less(other, height)]
    return number(len(above) - len(below), many)


def up_to_meeting(runs, climbs):
    """Tells by how much the price grows until the first two neighbours meet, of at least two runs."""
    waits = []
    for at in range(1, len(runs)):
        # neighbours never go apart: the one below is drawn up by the other one at least as much as down
        closing = taken(climbs[at - 1], climbs[at])
        if closing != NOUGHT:
            waits.append(parted(taken(runs[at][0], runs[at - 1][0]), closing))
    return least_of(waits)


def stair(data):
    """Tells the stair of data, a tuple of (price, row); what is no data is refused with NoData."""
    want_data(data)
    price, runs = NOUGHT, joined([(one, 1) for one in data])
    told = [(price, row_of_runs(runs))]
    while len(runs) > 1:
        climbs = [climb_of(runs, at) for at in range(len(runs))]
        more = up_to_meeting(runs, climbs)
        moved = [(added(height, multiplied(climb, more)), many) for (height, many), climb in zip(runs, climbs)]
        price, runs = added(price, more), joined(moved)
        told.append((price, row_of_runs(runs)))
    return tuple(told)


def row_between(row, other, share):
    """Tells the row that is a share of the way from a row to another one."""
    return tuple([added(one, multiplied(share, taken(two, one))) for one, two in zip(row, other)])


def at_price(told, price):
    """Tells the smoothed row at a price by a stair as told; what is no price is refused with NoPrice."""
    want_price(price)
    ahead, row = told[0]
    for after, other in told[1:]:
        if is_less(price, after):
            return row_between(row, other, parted(taken(price, ahead), taken(after, ahead)))
        ahead, row = after, other
    return tuple(list(row))
