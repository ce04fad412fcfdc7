"""What several tests need: things of any kind, drawn numbers, and numbers as Fractions of Python's own."""

import random
from fractions import Fraction


def drawn(seed):
    """A source that draws the same on each run."""
    return random.Random(seed)


def frac(one):
    return Fraction(one[0], one[1])


def num(value):
    value = Fraction(value)
    return (value.numerator, value.denominator)


def nums(values):
    return tuple(num(value) for value in values)


def fracs(row):
    return [frac(one) for one in row]


def strange():
    """Things of many kinds; none of them is a number, a tube, a row, a measure, steps or levellings but by chance."""
    return [
        None, True, False, 0, 1, -7, 10 ** 12, "", "1", "1/2", "0", "cord", b"", b"1", [], [1, 2], [(1, 1), (2, 1)],
        {}, {1: 2}, {(0, 1): (1, 1)}, set(), {1, 2}, frozenset(), frozenset((1, 2)), object(), int, len, range(3),
        ((((((((((),),),),),),),),),), [[[[[[]]]]]], {"a": [{"b": (None,)}]},
    ]


def no_numbers():
    """Things of any kind that are no numbers."""
    return strange() + [
        (), (1,), (1, 1, 1), (2, 4), (0, 2), (0, 0), (1, 0), (1, -1), (-1, -2), (6, 3), (-6, 3), (10 ** 9, 10 ** 6),
        (True, 1), (1, True), (False, 1), (True, True), (0, True), ("1", 1), (1, "1"), (None, None), (1, None),
        ([1], 1), ((1, 1), (1, 1)), ((1, 1), 1), (b"1", 1), [1, 1], "11",
    ]


def great_number(source):
    """A number with a top of at most 10 ** 9 either way and a bottom of at most 10 ** 6."""
    return num(Fraction(source.randint(-10 ** 9, 10 ** 9), source.randint(1, 10 ** 6)))


def small_number(source):
    return num(Fraction(source.randint(-6, 6), source.choice((1, 1, 1, 2, 3))))
