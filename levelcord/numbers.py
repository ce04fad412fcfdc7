"""Numbers: tuples (top, bottom) of whole numbers in lowest terms, bottom 1 or more."""

from levelcord.errors import NoNumber

NOUGHT = (0, 1)


def is_whole(thing):
    """Tells whether a thing of any kind is a whole number; True and False are none."""
    return isinstance(thing, int) and not isinstance(thing, bool)


def greatest_divisor(one, other):
    """Tells the greatest whole number that divides both, of two that aren't both 0."""
    one, other = abs(one), abs(other)
    while other:
        one, other = other, one % other
    return one


def is_number(thing):
    """Tells whether a thing of any kind is a number."""
    if not isinstance(thing, tuple) or len(thing) != 2:
        return False
    top, bottom = thing
    if not is_whole(top) or not is_whole(bottom) or bottom < 1:
        return False
    return greatest_divisor(top, bottom) == 1


def number(top, bottom):
    """Makes the number top by bottom, of two whole numbers; a bottom of 0 is refused with NoNumber."""
    if bottom == 0:
        raise NoNumber("nothing is parted by 0")
    divisor = greatest_divisor(top, bottom)
    if bottom < 0:
        divisor = -divisor
    return (top // divisor, bottom // divisor)


def added(one, other):
    """Tells the one and the other together."""
    return number(one[0] * other[1] + other[0] * one[1], one[1] * other[1])


def taken(one, other):
    """Tells the one less the other."""
    return number(one[0] * other[1] - other[0] * one[1], one[1] * other[1])


def multiplied(one, other):
    """Tells the one times the other."""
    return number(one[0] * other[0], one[1] * other[1])


def parted(one, other):
    """Tells the one by the other; where the other is 0 it is refused with NoNumber."""
    return number(one[0] * other[1], one[1] * other[0])


def is_less(one, other):
    """Tells whether the one is less than the other."""
    return one[0] * other[1] < other[0] * one[1]


def least_of(numbers):
    """Tells the least of some numbers, at least one."""
    least = numbers[0]
    for one in numbers:
        if is_less(one, least):
            least = one
    return least


def greatest_of(numbers):
    """Tells the greatest of some numbers, at least one."""
    greatest = numbers[0]
    for one in numbers:
        if is_less(greatest, one):
            greatest = one
    return greatest
