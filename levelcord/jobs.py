"""Jobs done between their arrivals and their dues, as evenly as can be."""

from levelcord.cords import cord
from levelcord.errors import NoJobs
from levelcord.measures import total
from levelcord.numbers import NOUGHT, added, greatest_of, is_less, is_number, is_whole, least_of, taken
from levelcord.tubes import differences

MOST_JOBS = 12
MOST_HOURS = 24


def is_job(thing):
    """Tells whether a thing of any kind is a job (arrival, due, work)."""
    if not isinstance(thing, tuple) or len(thing) != 3:
        return False
    arrival, due, work = thing
    if not is_whole(arrival) or not is_whole(due) or not 0 <= arrival < due <= MOST_HOURS:
        return False
    return is_number(work) and is_less(NOUGHT, work)


def is_jobs(thing):
    """Tells whether a thing of any kind is jobs."""
    if not isinstance(thing, tuple) or not 1 <= len(thing) <= MOST_JOBS:
        return False
    if not all([is_job(part) for part in thing]):
        return False
    return all([one[0] <= other[0] and one[1] <= other[1] for one, other in zip(thing, thing[1:])])


def want_jobs(jobs):
    """Refuses what is no jobs with NoJobs."""
    if not is_jobs(jobs):
        raise NoJobs("these are no jobs")


def job_tube(jobs):
    """Tells the tube of all that may be done up to each hour, to the last due; what is no jobs is refused."""
    want_jobs(jobs)
    places = []
    for hour in range(jobs[-1][1] + 1):
        due_by_then = [work for arrival, due, work in jobs if due <= hour]
        arrived = [work for arrival, due, work in jobs if arrival < hour]
        places.append((total(due_by_then), total(arrived)))
    return tuple(places)


def speeds(jobs):
    """Tells the speed in each stretch from hour 0 to the last due; what is no jobs is refused with NoJobs."""
    return differences(cord(job_tube(jobs)))


def shared(done, begin, end):
    """Tells (stretch, part) of what is done in each stretch of the work from a begin to an end."""
    told = []
    for hour in range(len(done) - 1):
        part = taken(least_of((done[hour + 1], end)), greatest_of((done[hour], begin)))
        if is_less(NOUGHT, part):
            told.append((hour, part))
    return tuple(told)


def parts(jobs):
    """Tells for each job its (stretch, part), jobs done one behind the other; what is no jobs is refused."""
    done = cord(job_tube(jobs))
    told = []
    begin = NOUGHT
    for arrival, due, work in jobs:
        end = added(begin, work)
        told.append(shared(done, begin, end))
        begin = end
    return tuple(told)
