"""Rows, tubes and jobs as they are written."""

from levelcord.errors import NoText
from levelcord.jobs import is_jobs
from levelcord.numbertexts import read_number, show_number
from levelcord.tubes import MOST_PLACES, are_numbers, are_steps, is_place, is_tube


def read_parts(text, sign, read_part, may_stand):
    """Reads the parts of a text, parted by a sign, each one so that it may stand behind those ahead of it."""
    if not isinstance(text, str):
        raise NoText(None)
    read = []
    for at, part in enumerate(text.split(sign)):
        try:
            read.append(read_part(part))
        except NoText:
            raise NoText(at) from None
        if not may_stand(tuple(read)):
            raise NoText(at)
    return tuple(read)


def is_written_row(thing):
    """Tells whether a thing is one to 25 numbers."""
    return are_numbers(thing, 1, MOST_PLACES)


def begins_tube(places):
    """Tells whether places, at least one, are a tube or come to be one with more."""
    return is_tube(places) if len(places) > 1 else is_place(places[0])


def show_row(row):
    """Writes numbers: a row, data, needs or steps."""
    return " ".join([show_number(one) for one in row])


def read_row(text):
    """Reads one to 25 numbers; what is written otherwise, or is no text, is refused with NoText."""
    return read_parts(text, " ", read_number, is_written_row)


def read_data(text):
    """Reads one to 24 numbers; what is written otherwise, or is no text, is refused with NoText."""
    # data are what steps are
    return read_parts(text, " ", read_number, are_steps)


def show_place(place):
    """Writes a place of a tube."""
    low, high = place
    return show_number(low) if low == high else f"{show_number(low)}..{show_number(high)}"


def read_place(text):
    """Reads a place of a tube; what is written otherwise is refused with NoText."""
    low, dots, high = text.partition("..")
    if not dots:
        one = read_number(low)
        return (one, one)
    place = (read_number(low), read_number(high))
    if place[0] == place[1]:
        raise NoText(None)
    return place


def show_tube(tube):
    """Writes a tube."""
    return ", ".join([show_place(place) for place in tube])


def read_tube(text):
    """Reads a tube; what is written otherwise, or is no text, is refused with NoText."""
    places = read_parts(text, ", ", read_place, begins_tube)
    if not is_tube(places):
        raise NoText(len(places))
    return places


def show_job(job):
    """Writes a job."""
    arrival, due, work = job
    return f"{arrival} {due} {show_number(work)}"


def read_hour(text):
    """Reads an arrival or a due; what is written otherwise is refused with NoText."""
    top, bottom = read_number(text)
    if bottom != 1:
        raise NoText(None)
    return top


def read_job(text):
    """Reads a job; what is written otherwise is refused with NoText."""
    words = text.split(" ")
    if len(words) != 3:
        raise NoText(None)
    return (read_hour(words[0]), read_hour(words[1]), read_number(words[2]))


def show_jobs(jobs):
    """Writes jobs."""
    return "; ".join([show_job(job) for job in jobs])


def read_jobs(text):
    """Reads jobs; what is written otherwise, or is no text, is refused with NoText."""
    # jobs begin with jobs: those ahead of each part are some, too
    return read_parts(text, "; ", read_job, is_jobs)
