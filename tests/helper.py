"""What several tests need: things of any kind, drawn numbers, and numbers as Fractions of Python's own."""

import random
from fractions import Fraction
from itertools import product


def drawn(seed):
    """A source that draws the same on each run."""
    return random.Random(seed)


def frac(one):
    return Fraction(one[0], one[1])


def num(value):
    value = Fraction(value)
    return (value.numerator, value.denominator)


def nums(values):
    return tuple(num(value) for value in values)


def fracs(row):
    return [frac(one) for one in row]


def strange():
    """Things of many kinds; none of them is a number, a tube, a row, a measure, steps or levellings but by chance."""
    return [
        None, True, False, 0, 1, -7, 10 ** 12, "", "1", "1/2", "0", "cord", b"", b"1", [], [1, 2], [(1, 1), (2, 1)],
        {}, {1: 2}, {(0, 1): (1, 1)}, set(), {1, 2}, frozenset(), frozenset((1, 2)), object(), int, len, range(3),
        ((((((((((),),),),),),),),),), [[[[[[]]]]]], {"a": [{"b": (None,)}]},
    ]


def no_numbers():
    """Things of any kind that are no numbers."""
    return strange() + [
        (), (1,), (1, 1, 1), (2, 4), (0, 2), (0, 0), (1, 0), (1, -1), (-1, -2), (6, 3), (-6, 3), (10 ** 9, 10 ** 6),
        (True, 1), (1, True), (False, 1), (True, True), (0, True), ("1", 1), (1, "1"), (None, None), (1, None),
        ([1], 1), ((1, 1), (1, 1)), ((1, 1), 1), (b"1", 1), [1, 1], "11",
    ]


def no_rows():
    """Things of any kind that are neither rows nor steps."""
    return [thing for thing in no_numbers() if thing != ((1, 1), (1, 1))]


def great_number(source):
    """A number with a top of at most 10 ** 9 either way and a bottom of at most 10 ** 6."""
    return num(Fraction(source.randint(-10 ** 9, 10 ** 9), source.randint(1, 10 ** 6)))


def small_number(source):
    return num(Fraction(source.randint(-6, 6), source.choice((1, 1, 1, 2, 3))))


def refused(error, call, *things):
    """The refusal that a call raises; it must be of just this class."""
    try:
        answer = call(*things)
    except ValueError as caught:
        assert caught.__class__ is error, f"{caught!r} in the place of {error.__name__}, of {things!r}"
        return caught
    raise AssertionError(f"{answer!r} in the place of {error.__name__}, of {things!r}")


def spoilt(thing):
    """The thing with one of its parts, at any depth, put wrongly; so too with a part too few or too many within."""
    wrong = [None, True, False, "x", b"1", [1], (), {}, {1}]
    if isinstance(thing, tuple):
        wrong += [list(thing), dict(enumerate(thing))]
    yield from wrong
    if not isinstance(thing, tuple):
        return
    for at, part in enumerate(thing):
        others = list(spoilt(part))
        if isinstance(part, tuple):
            others += [part[:-1], part + part[-1:], (part,)]
        if is_whole_pair(part):
            others += [(2 * part[0], 2 * part[1]), (-part[0], -part[1]), (part[0], 0)]
        for other in others:
            yield thing[:at] + (other,) + thing[at + 1:]


def is_whole_pair(thing):
    return isinstance(thing, tuple) and len(thing) == 2 and all(part.__class__ is int for part in thing)


def tied(lows_and_highs):
    """A tube of Python's own numbers, its ends tied to their lows."""
    pairs = [(Fraction(low), Fraction(high)) for low, high in lows_and_highs]
    pairs[0] = (pairs[0][0], pairs[0][0])
    pairs[-1] = (pairs[-1][0], pairs[-1][0])
    return tuple((num(low), num(high)) for low, high in pairs)


def drawn_number(source, kind):
    if kind == "small":
        return Fraction(source.randint(-4, 4))
    if kind == "parts":
        return Fraction(source.randint(-9, 9), source.choice((1, 2, 3)))
    return frac(great_number(source))


def open_tube(lows_and_highs):
    """A tube of Python's own numbers, as they stand."""
    return tuple((num(low), num(high)) for low, high in lows_and_highs)


def drawn_bounds(source, places, kind):
    """Bounds of one of these kinds: small, parts, great, narrow, straight, touching."""
    if kind in ("small", "parts", "great"):
        return [sorted((drawn_number(source, kind), drawn_number(source, kind))) for k in range(places)]
    if kind == "narrow":
        bases = [Fraction(source.randint(-10 ** 9, 10 ** 9), 10 ** 6) for k in range(places)]
        return [(base, base + Fraction(source.randint(0, 2), 10 ** 6)) for base in bases]
    if kind == "straight":
        slope = Fraction(source.randint(-5, 5), source.randint(1, 4))
        return [(slope * k - source.randint(0, 3) * (0 < k < places - 1), slope * k + source.randint(0, 3))
                for k in range(places)]
    return [source.choice(((0, 0), (0, 1), (1, 1), (-1, 0), (0, 2), (k % 2, k % 2 + 1))) for k in range(places)]


def drawn_tube(source, places, kind):
    """A tied tube of bounds of a kind."""
    return tied(drawn_bounds(source, places, kind))


KINDS = ("small", "parts", "great", "narrow", "straight", "touching")


def drawn_tubes(seed, rounds, sizes):
    """Tied tubes of all kinds, each round with one of the sizes for each kind."""
    source = drawn(seed)
    for k in range(rounds):
        for kind in KINDS:
            yield drawn_tube(source, source.choice(sizes), kind)


def drawn_open_tubes(seed, rounds, sizes):
    """Tubes of all kinds, tied or not, each round with one of the sizes for each kind."""
    source = drawn(seed)
    for k in range(rounds):
        for kind in KINDS:
            yield open_tube(drawn_bounds(source, source.choice(sizes), kind))


def drawn_rows(source, tube, many):
    """Rows of a tube: at its lows, at its highs, at either, and between."""
    rows = [tuple(low for low, high in tube), tuple(high for low, high in tube)]
    for k in range(many):
        rows.append(tuple(source.choice(place) for place in tube))
        rows.append(nums(frac(low) + (frac(high) - frac(low)) * Fraction(source.randint(0, 6), 6)
                         for low, high in tube))
    return rows


def steps_of(row):
    heights = fracs(row)
    return [after - ahead for ahead, after in zip(heights, heights[1:])]


def is_surely_taut(tube, row):
    """Whether a row is the cord of a tied tube, by the words alone."""
    if len(row) != len(tube):
        return False
    climbs = steps_of(row)
    for at, (low, high) in enumerate(tube):
        if not frac(low) <= frac(row[at]) <= frac(high):
            return False
        if 0 < at < len(tube) - 1:
            if climbs[at] > climbs[at - 1] and row[at] != high:
                return False
            if climbs[at] < climbs[at - 1] and row[at] != low:
                return False
    return True


def has_sure_touches(tube, row, climbs_to, climbs_on):
    """Whether a row is in its tube and has the high where it bends up, the low where it bends down."""
    for (low, high), one, ahead, on in zip(tube, row, climbs_to, climbs_on, strict=True):
        if not frac(low) <= frac(one) <= frac(high):
            return False
        if on > ahead and one != high or on < ahead and one != low:
            return False
    return True


def least_level(tube):
    """The row at the least height that is in all bounds, or None."""
    height = max(frac(low) for low, high in tube)
    return nums([height] * len(tube)) if all(frac(high) >= height for low, high in tube) else None


def straight_between(fixed):
    """The heights from the first to the last of some (place, height), straight between each two."""
    heights = [fixed[0][1]]
    for (begin, height), (end, other) in zip(fixed, fixed[1:]):
        heights += [height + (other - height) * k / (end - begin) for k in range(1, end - begin + 1)]
    return heights


def rows_of_sixths(tube):
    """All rows of a tube of whole numbers whose heights are sixths."""
    return product(*([num(Fraction(k, 6)) for k in range(6 * low[0], 6 * high[0] + 1)] for low, high in tube))


def drawn_point(source, climbs):
    """A number at, near or away from some steps."""
    return source.choice(climbs) + source.choice((0, 0, Fraction(1, 3), -1, source.randint(-9, 9)))


def drawn_weight(source):
    return num(Fraction(source.randint(1, 9), source.randint(1, 4)))


def drawn_measure(source, climbs):
    """A measure with points at, near and away from some steps."""
    return tuple((source.choice(("above", "below")), num(drawn_point(source, climbs)), drawn_weight(source))
                 for k in range(source.randint(1, 6)))


def drawn_measure_at_nought(source, climbs):
    """A measure least at nought, with points at, near and away from some steps."""
    parts = []
    for k in range(source.randint(1, 6)):
        point = drawn_point(source, climbs)
        side = "above" if point > 0 else "below" if point < 0 else source.choice(("above", "below"))
        parts.append((side, num(point), drawn_weight(source)))
    return tuple(parts)


def drawn_data(source, many):
    """Data: great ones, small ones, or such with many neighbours alike."""
    draw = source.choice((great_number, small_number, lambda source: num(source.randint(0, 1))))
    return tuple(draw(source) for k in range(many))


def drawn_price(source, data):
    """A price: 0, a small one, a great one, or one of the size of what data differ by."""
    apart = max(fracs(data)) - min(fracs(data))
    return num(source.choice((0, Fraction(1, 3), source.randint(1, 10 ** 9),
                              apart * Fraction(source.randint(0, 12), source.randint(1, 12)))))
