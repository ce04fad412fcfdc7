"""Levellings: of two steps the greater one becomes less, the other one more, by as much."""

from levelcord.cords import cord
from levelcord.errors import NoLevel, NoRow
from levelcord.measures import falling, sums_of_greatest
from levelcord.numbers import NOUGHT, added, is_less, is_number, is_whole, taken
from levelcord.tubes import differences, is_row, want_steps, want_tied


def can_be_done(steps, thing):
    """Tells whether a thing of any kind is a levelling of these steps."""
    if not isinstance(thing, tuple) or len(thing) != 3:
        return False
    greater, less, amount = thing
    if not is_whole(greater) or not is_whole(less) or not is_number(amount):
        return False
    if not 0 <= greater < len(steps) or not 0 <= less < len(steps):
        return False
    # one step, or two alike, differ by 0, so no amount above 0 is left for them
    return is_less(NOUGHT, amount) and not is_less(taken(steps[greater], steps[less]), amount)


def walk(walked, levelling):
    """Does a levelling in a list of steps."""
    greater, less, amount = levelling
    walked[greater] = taken(walked[greater], amount)
    walked[less] = added(walked[less], amount)


def levelled(steps, levellings):
    """Tells the steps that levellings, walked one behind the other, lead to; refused are NoRow, then NoLevel."""
    want_steps(steps)
    if not isinstance(levellings, tuple):
        raise NoLevel(None)
    walked = list(steps)
    for at, levelling in enumerate(levellings):
        if not can_be_done(walked, levelling):
            raise NoLevel(at)
        walk(walked, levelling)
    return tuple(walked)


def exchanges(steps, places):
    """Tells levellings, each of which exchanges two steps, so that the steps fall along the places."""
    walked = list(steps)
    told = []
    for where, less in enumerate(places):
        greater = less
        for at in places[where + 1:]:
            if is_less(walked[greater], walked[at]):
                greater = at
        if greater != less:
            levelling = (greater, less, taken(walked[greater], walked[less]))
            walk(walked, levelling)
            told.append(levelling)
    return told


def next_evening(steps, aim, places):
    """Tells a levelling that brings one of two steps to its aim, or None, where none is above it."""
    greater = less = None
    # the last one above its aim: all that is above up to it is lacking behind it, so one below is found there
    for at in places:
        if is_less(aim[at], steps[at]):
            greater, less = at, None
        elif less is None and is_less(steps[at], aim[at]):
            less = at
    if greater is None:
        return None
    over, lack = taken(steps[greater], aim[greater]), taken(aim[less], steps[less])
    return (greater, less, over if is_less(over, lack) else lack)


def evenings(steps, aim, places):
    """Tells levellings from steps to their aim, where both fall along the places and some lead there."""
    walked = list(steps)
    told = []
    levelling = next_evening(walked, aim, places)
    while levelling is not None:
        walk(walked, levelling)
        told.append(levelling)
        levelling = next_evening(walked, aim, places)
    return told


def lead_there(steps, aim):
    """Tells whether levellings lead from steps to others, as many."""
    sums, wanted = sums_of_greatest(steps), sums_of_greatest(aim)
    return sums[-1] == wanted[-1] and not any([is_less(one, other) for one, other in zip(sums, wanted)])


def between(other, steps):
    """Tells levellings from other to steps, as many, or None, where none lead there; refused is NoRow."""
    want_steps(other)
    want_steps(steps)
    if len(other) != len(steps):
        raise NoRow("these are not as many steps")
    if not lead_there(other, steps):
        return None
    # each levelling of either kind brings a step where it stays, the last one two: fewer than steps of each kind
    places = falling(steps)
    first = exchanges(other, places)
    return tuple(first + evenings(levelled(other, tuple(first)), steps, places))


def to_cord(tube, row):
    """Tells levellings from a row's steps to the cord's, each at its place; refused are NoTube, then NoRow."""
    want_tied(tube)
    if not is_row(tube, row):
        raise NoRow("this is no row of the tube")
    return between(differences(row), differences(cord(tube)))
