"""Measures of steps, and what rows are worth by them."""

from levelcord.errors import NoMeasure
from levelcord.numbers import NOUGHT, added, is_less, is_number, multiplied, taken
from levelcord.tubes import steps

MOST_PARTS = 6


def is_part(thing):
    """Tells whether a thing of any kind is a measure's part (side, point, weight)."""
    if not isinstance(thing, tuple) or len(thing) != 3:
        return False
    side, point, weight = thing
    if not isinstance(side, str) or side not in ("above", "below"):
        return False
    return is_number(point) and is_number(weight) and is_less(NOUGHT, weight)


def is_measure(thing):
    """Tells whether a thing of any kind is a measure."""
    if not isinstance(thing, tuple) or not 1 <= len(thing) <= MOST_PARTS:
        return False
    return all([is_part(part) for part in thing])


def want_measure(thing):
    """Refuses what is no measure with NoMeasure."""
    if not is_measure(thing):
        raise NoMeasure("this is no measure")


def total(numbers):
    """Tells all numbers of a list together."""
    together = NOUGHT
    for one in numbers:
        together = added(together, one)
    return together


def part_worth(part, step):
    """Tells what a step is worth by a measure's part."""
    side, point, weight = part
    over = taken(step, point) if side == "above" else taken(point, step)
    return multiplied(weight, over) if is_less(NOUGHT, over) else NOUGHT


def worth(measure, row):
    """Tells what a row is worth by a measure; refused are NoMeasure, then NoRow."""
    want_measure(measure)
    return total([part_worth(part, step) for step in steps(row) for part in measure])


def is_least_at_nought(measure):
    """Tells whether no step is worth less by a measure than one of 0; what is none is refused with NoMeasure."""
    want_measure(measure)
    for side, point, weight in measure:
        if side == "above" and is_less(point, NOUGHT):
            return False
        if side == "below" and is_less(NOUGHT, point):
            return False
    return True


def falling(numbers):
    """Tells the places of numbers, those of greater ones ahead."""
    places = []
    for at in range(len(numbers)):
        where = 0
        while where < len(places) and not is_less(numbers[places[where]], numbers[at]):
            where += 1
        places.insert(where, at)
    return places


def sums_of_greatest(numbers):
    """Tells, for each k from 1 on, the k greatest of numbers together."""
    sums = []
    together = NOUGHT
    for at in falling(numbers):
        together = added(together, numbers[at])
        sums.append(together)
    return sums


def greatest_sums(row):
    """Tells, for each k from 1 on, a row's k greatest steps together; what is no row is refused with NoRow."""
    return sums_of_greatest(steps(row))


def squares(row):
    """Tells the squares of a row's steps together; what is no row is refused with NoRow."""
    return total([multiplied(step, step) for step in steps(row)])
