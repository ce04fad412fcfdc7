"""Papers: for each question the claim that is true, with a paper by which the checker takes it."""

from levelcord.cords import cord
from levelcord.errors import NoRow
from levelcord.jobs import parts, speeds
from levelcord.levellings import between
from levelcord.looseends import loose_cord
from levelcord.measures import sums_of_greatest
from levelcord.numbers import is_less
from levelcord.rings import ring_cord
from levelcord.smoothing import smoothed
from levelcord.stairs import stair
from levelcord.stores import bought
from levelcord.tubes import is_row, want_tied, want_tube


def paper_taut(tube, row):
    """Tells that a row is taut, or not, and then the cord as paper; refused are NoTube, then NoRow."""
    want_tied(tube)
    if not is_row(tube, row):
        raise NoRow("this is no row of the tube")
    best = cord(tube)
    if row == best:
        return (("taut", tube, row), None)
    # each other row has more squares of steps than the cord
    return (("not taut", tube, row), best)


def paper_loose(tube):
    """Tells a row that is taut with loose ends; what is no tube is refused with NoTube."""
    return (("loose", tube, loose_cord(tube)), None)


def paper_ring(tube):
    """Tells a row that is taut round a ring; what is no ring is refused with NoTube."""
    return (("ring", tube, ring_cord(tube)), None)


def greater_sum(steps, other):
    """Tells the first k of which the k greatest steps are more together than the other's, or None."""
    for at, (one, two) in enumerate(zip(sums_of_greatest(steps), sums_of_greatest(other))):
        if is_less(two, one):
            return at + 1
    return None


def paper_steps(steps, other):
    """Tells that levellings lead from other to steps, with such, or that none do; refused is NoRow."""
    levellings = between(other, steps)
    if levellings is not None:
        return (("leveller", steps, other), levellings)
    # where no sum of the greatest is more, that of all is less, and differs so
    return (("no leveller", steps, other), greater_sum(steps, other))


def paper_smooth(data, price):
    """Tells the smoothed row of data at a price; refused are NoData, then NoPrice."""
    return (("smooth", data, price, smoothed(data, price)), None)


def paper_stair(data):
    """Tells the stair of data; what is no data is refused with NoData."""
    return (("stair", data, stair(data)), None)


def paper_settled(funnel):
    """Tells all that is settled in a funnel, with the places that show it; refused with NoTube ahead of the first."""
    tube = funnel.tube()
    want_tube(tube)
    return (("settled", tube, funnel.settled()), funnel.shown_by())


def paper_store(needs, room):
    """Tells what is bought at each time by the most level plan; refused are NoNeeds, then NoRoom."""
    return (("store", needs, room, bought(needs, room)), None)


def paper_speeds(jobs):
    """Tells the speeds by which jobs are done; what is no jobs is refused with NoJobs."""
    return (("speeds", jobs, speeds(jobs)), None)


def paper_done(jobs):
    """Tells the speeds, and of each job its parts; what is no jobs is refused with NoJobs."""
    return (("done", jobs, speeds(jobs), parts(jobs)), None)
