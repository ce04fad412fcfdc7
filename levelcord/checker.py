"""The checker: takes a claim with its paper, or not, and trusts nobody.

What it needs of bends, prices, stores and jobs it says anew: a fault of those who find answers must not hide here.
"""

from levelcord.errors import NoLevel
from levelcord.levellings import levelled
from levelcord.measures import squares, sums_of_greatest, total
from levelcord.numbers import NOUGHT, added, is_less, is_number, is_whole, multiplied, parted, taken
from levelcord.tubes import (
    are_numbers, are_steps, differences, is_row, is_tied, is_tube, is_within, row_of, tube_round_sums,
)

HALF = (1, 2)
RING_PLACES = (3, 24)
MOST_JOBS = 12
LAST_HOUR = 24


def is_from_nought(thing):
    """Tells whether a thing of any kind is a number from 0 on."""
    return is_number(thing) and not is_less(thing, NOUGHT)


def bends_at_touches(places, row, climbs):
    """Tells whether a row has the high where it bends up, the low where it bends down.

    The climb that leads to a place has the place's number, the one that leads on from it the next.
    """
    for at, (low, high) in enumerate(places):
        if is_less(climbs[at], climbs[at + 1]) and row[at] != high:
            return False
        if is_less(climbs[at + 1], climbs[at]) and row[at] != low:
            return False
    return True


def is_cord_of(tube, thing):
    """Tells whether a thing of any kind is the cord of a tied tube."""
    return is_row(tube, thing) and bends_at_touches(tube[1:-1], thing[1:-1], differences(thing))


def are_cord_steps(tube, thing):
    """Tells whether a thing of any kind is the steps of the cord of a tied tube that begins at 0."""
    many = len(tube) - 1
    return are_numbers(thing, many, many) and is_cord_of(tube, row_of(NOUGHT, thing))


def taut_holds(parts):
    """Takes (tube, row): the cord of a tied tube."""
    tube, row = parts
    return is_tied(tube) and is_cord_of(tube, row)


def loose_holds(parts):
    """Takes (tube, row): taut with loose ends."""
    tube, row = parts
    if not is_tube(tube) or not is_row(tube, row):
        return False
    # what is asked of loose ends is what a bend asks where a level climb stands ahead of and behind the row
    return bends_at_touches(tube, row, (NOUGHT,) + differences(row) + (NOUGHT,))


def ring_holds(parts):
    """Takes (tube, row): taut round a ring."""
    tube, row = parts
    least, most = RING_PLACES
    if not is_tube(tube) or not least <= len(tube) <= most or not is_row(tube, row):
        return False
    return bends_at_touches(tube, row, differences(row[-1:] + row + row[:1]))


def leveller_holds(parts, paper):
    """Takes (steps, other): levellings lead from other to steps; the paper is such levellings."""
    steps, other = parts
    if not are_steps(steps) or not are_steps(other):
        return False
    try:
        return levelled(other, paper) == steps
    except NoLevel:
        return False


def no_leveller_holds(parts, paper):
    """Takes (steps, other): no levellings lead there; the paper is k, or None where the sums of all differ."""
    steps, other = parts
    if not are_steps(steps) or not are_steps(other) or len(steps) != len(other):
        return False
    sums, other_sums = sums_of_greatest(steps), sums_of_greatest(other)
    if paper is None:
        return sums[-1] != other_sums[-1]
    if not is_whole(paper) or not 1 <= paper <= len(steps):
        return False
    return is_less(other_sums[paper - 1], sums[paper - 1])


def not_taut_holds(parts, paper):
    """Takes (tube, row): a row that isn't the cord; the paper is a row with less squares of steps together."""
    tube, row = parts
    if not is_tied(tube) or not is_row(tube, row) or not is_row(tube, paper):
        return False
    return is_less(squares(paper), squares(row))


def is_smooth(data, price, thing):
    """Tells whether a thing of any kind is the smoothed row of data at a price."""
    return are_cord_steps(tube_round_sums(data, price, price), thing)


def smooth_holds(parts):
    """Takes (data, price, row): the smoothed row."""
    data, price, row = parts
    return are_steps(data) and is_from_nought(price) and is_smooth(data, price, row)


def is_stair_pair(thing, many):
    """Tells whether a thing of any kind is (price, row), the row of so many numbers."""
    if not isinstance(thing, tuple) or len(thing) != 2:
        return False
    return is_from_nought(thing[0]) and are_numbers(thing[1], many, many)


def half_way(one, other):
    """Tells the number half way between two."""
    return multiplied(added(one, other), HALF)


def some_join(row, later):
    """Tells whether some neighbours, unlike in a row, are alike in a later one."""
    return any([row[at] != row[at - 1] and later[at] == later[at - 1] for at in range(1, len(row))])


def leads_on(data, pair, later_pair):
    """Tells whether behind one pair of the stair of data another one is the next."""
    price, row = pair
    later_price, later = later_pair
    if not is_less(price, later_price) or not is_smooth(data, later_price, later) or not some_join(row, later):
        return False
    # what goes evenly from one smoothed row to another is smoothed on the whole way or nowhere between: half way tells
    middle = tuple([half_way(one, other) for one, other in zip(row, later)])
    return is_smooth(data, half_way(price, later_price), middle)


def stair_holds(parts):
    """Takes (data, stair): the stair of data."""
    data, stair = parts
    if not are_steps(data) or not isinstance(stair, tuple) or len(stair) == 0:
        return False
    if not all([is_stair_pair(pair, len(data)) for pair in stair]) or stair[0] != (NOUGHT, data):
        return False
    for pair, later_pair in zip(stair, stair[1:]):
        if not leads_on(data, pair, later_pair):
            return False
    last_row = stair[-1][1]
    return all([one == last_row[0] for one in last_row])


def is_touch(thing):
    """Tells whether a thing of any kind is (place, number)."""
    return isinstance(thing, tuple) and len(thing) == 2 and is_whole(thing[0]) and is_number(thing[1])


def line_through(begin, touch, many):
    """Tells the heights at the first so many places of the straight line from one touch through a later one."""
    place, height = begin
    later, other_height = touch
    climb = parted(taken(other_height, height), (later - place, 1))
    return [added(height, multiplied(climb, (at - place, 1))) for at in range(many)]


def shows(tube, begin, touch, by):
    """Tells whether a later place shows that a touch is settled behind another one."""
    place, height = touch
    line = line_through(begin, touch, by + 1)
    if not all([is_within(tube[at], line[at]) for at in range(begin[0] + 1, place + 1)]):
        return False
    low, high = tube[place]
    last_low, last_high = tube[by]
    if height == high and is_less(line[by], last_low):
        return all([is_less(line[at], tube[at][1]) for at in range(place + 1, by)])
    if height == low and is_less(last_high, line[by]):
        return all([is_less(tube[at][0], line[at]) for at in range(place + 1, by)])
    return False


def settled_holds(parts, paper):
    """Takes (tube, touches): what is settled; the paper is for each touch a later place that shows it."""
    tube, touches = parts
    if not is_tube(tube) or tube[0][0] != tube[0][1]:
        return False
    if not isinstance(touches, tuple) or not isinstance(paper, tuple) or len(touches) != len(paper):
        return False
    begin = (0, tube[0][0])
    for touch, by in zip(touches, paper):
        if not is_touch(touch) or not is_whole(by) or not begin[0] < touch[0] < by < len(tube):
            return False
        if not shows(tube, begin, touch, by):
            return False
        begin = touch
    return True


def store_holds(parts):
    """Takes (needs, room, bought): what is bought by the plan whose steps are the cord's."""
    needs, room, bought = parts
    if not are_steps(needs) or not all([is_from_nought(need) for need in needs]) or not is_from_nought(room):
        return False
    return are_cord_steps(tube_round_sums(needs, NOUGHT, room), bought)


def is_job(thing):
    """Tells whether a thing of any kind is (arrival, due, work)."""
    if not isinstance(thing, tuple) or len(thing) != 3 or not is_whole(thing[0]) or not is_whole(thing[1]):
        return False
    return 0 <= thing[0] < thing[1] <= LAST_HOUR and is_from_nought(thing[2]) and thing[2] != NOUGHT


def are_jobs(thing):
    """Tells whether a thing of any kind is jobs."""
    if not isinstance(thing, tuple) or not 1 <= len(thing) <= MOST_JOBS or not all([is_job(job) for job in thing]):
        return False
    arrivals, dues = [job[0] for job in thing], [job[1] for job in thing]
    return arrivals == sorted(arrivals) and dues == sorted(dues)


def bounds_of_jobs(jobs):
    """Tells the tube of what must and what may be done up to each hour."""
    places = []
    for hour in range(jobs[-1][1] + 1):
        must = total([job[2] for job in jobs if job[1] <= hour])
        may = total([job[2] for job in jobs if job[0] < hour])
        places.append((must, may))
    return tuple(places)


def speeds_hold(parts):
    """Takes (jobs, speeds): those of the cord."""
    jobs, speeds = parts
    return are_jobs(jobs) and are_cord_steps(bounds_of_jobs(jobs), speeds)


def is_share(thing):
    """Tells whether a thing of any kind is (stretch, part), the part above 0."""
    return is_touch(thing) and is_less(NOUGHT, thing[1])


def does_job(job, thing):
    """Tells whether a thing of any kind is parts that do a job, all of it and in its time."""
    arrival, due, work = job
    if not isinstance(thing, tuple) or not all([is_share(share) for share in thing]):
        return False
    ahead = arrival - 1
    for stretch, part in thing:
        if not ahead < stretch < due:
            return False
        ahead = stretch
    return total([part for stretch, part in thing]) == work


def done_holds(parts):
    """Takes (jobs, speeds, parts of each job): all is done in time, at these speeds, whether the cord's or others."""
    jobs, speeds, shares = parts
    if not are_jobs(jobs) or not isinstance(shares, tuple) or len(shares) != len(jobs):
        return False
    hours = jobs[-1][1]
    if not are_numbers(speeds, hours, hours) or not all([does_job(job, own) for job, own in zip(jobs, shares)]):
        return False
    for hour in range(hours):
        if total([part for own in shares for stretch, part in own if stretch == hour]) != speeds[hour]:
            return False
    return True


SIZES = {
    "taut": 2, "loose": 2, "ring": 2, "leveller": 2, "no leveller": 2, "not taut": 2, "smooth": 3, "stair": 2,
    "settled": 2, "store": 3, "speeds": 2, "done": 3,
}
WITHOUT_PAPER = {
    "taut": taut_holds, "loose": loose_holds, "ring": ring_holds, "smooth": smooth_holds, "stair": stair_holds,
    "store": store_holds, "speeds": speeds_hold, "done": done_holds,
}
WITH_PAPER = {
    "leveller": leveller_holds, "no leveller": no_leveller_holds, "not taut": not_taut_holds, "settled": settled_holds,
}


def holds(claim, paper):
    """Tells whether a claim and its paper, things of any kind, are as they should be."""
    if not isinstance(claim, tuple) or len(claim) == 0 or not isinstance(claim[0], str):
        return False
    word, parts = claim[0], claim[1:]
    if word not in SIZES or len(parts) != SIZES[word]:
        return False
    if word in WITH_PAPER:
        check_with = WITH_PAPER[word]
        return check_with(parts, paper)
    check = WITHOUT_PAPER[word]
    return paper is None and check(parts)
