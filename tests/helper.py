"""What several tests need: things of any kind, drawn numbers, and numbers as Fractions of Python's own."""

import random
from fractions import Fraction
from itertools import product
from math import gcd

from levelcord.cords import cord
from levelcord.jobs import speeds
from levelcord.looseends import loose_cord
from levelcord.rings import ring_cord
from levelcord.smoothing import smoothed
from levelcord.stairs import stair
from levelcord.stores import bought


def drawn(seed):
    """A source that draws the same on each run."""
    return random.Random(seed)


def frac(one):
    return Fraction(one[0], one[1])


def num(value):
    value = Fraction(value)
    return (value.numerator, value.denominator)


def nums(values):
    return tuple(num(value) for value in values)


def fracs(row):
    return [frac(one) for one in row]


def strange():
    """Things of many kinds; none of them is a number, a tube, a row, a measure, steps or levellings but by chance."""
    return [
        None, True, False, 0, 1, -7, 10 ** 12, "", "1", "1/2", "0", "cord", b"", b"1", [], [1, 2], [(1, 1), (2, 1)],
        {}, {1: 2}, {(0, 1): (1, 1)}, set(), {1, 2}, frozenset(), frozenset((1, 2)), object(), int, len, range(3),
        ((((((((((),),),),),),),),),), [[[[[[]]]]]], {"a": [{"b": (None,)}]},
    ]


def no_numbers():
    """Things of any kind that are no numbers."""
    return strange() + [
        (), (1,), (1, 1, 1), (2, 4), (0, 2), (0, 0), (1, 0), (1, -1), (-1, -2), (6, 3), (-6, 3), (10 ** 9, 10 ** 6),
        (True, 1), (1, True), (False, 1), (True, True), (0, True), ("1", 1), (1, "1"), (None, None), (1, None),
        ([1], 1), ((1, 1), (1, 1)), ((1, 1), 1), (b"1", 1), [1, 1], "11",
    ]


def no_rows():
    """Things of any kind that are neither rows nor steps."""
    return [thing for thing in no_numbers() if thing != ((1, 1), (1, 1))]


def great_number(source):
    """A number with a top of at most 10 ** 9 either way and a bottom of at most 10 ** 6."""
    return num(Fraction(source.randint(-10 ** 9, 10 ** 9), source.randint(1, 10 ** 6)))


def small_number(source):
    return num(Fraction(source.randint(-6, 6), source.choice((1, 1, 1, 2, 3))))


def refused(error, call, *things):
    """The refusal that a call raises; it must be of just this class."""
    try:
        answer = call(*things)
    except ValueError as caught:
        assert caught.__class__ is error, f"{caught!r} in the place of {error.__name__}, of {things!r}"
        return caught
    raise AssertionError(f"{answer!r} in the place of {error.__name__}, of {things!r}")


def spoilt(thing):
    """The thing with one of its parts, at any depth, put wrongly; so too with a part too few or too many within."""
    wrong = [None, True, False, "x", b"1", [1], (), {}, {1}]
    if isinstance(thing, tuple):
        wrong += [list(thing), dict(enumerate(thing))]
    yield from wrong
    if not isinstance(thing, tuple):
        return
    for at, part in enumerate(thing):
        others = list(spoilt(part))
        if isinstance(part, tuple):
            others += [part[:-1], part + part[-1:], (part,)]
        if is_whole_pair(part):
            others += [(2 * part[0], 2 * part[1]), (-part[0], -part[1]), (part[0], 0)]
        for other in others:
            yield thing[:at] + (other,) + thing[at + 1:]


def is_whole_pair(thing):
    return isinstance(thing, tuple) and len(thing) == 2 and all(part.__class__ is int for part in thing)


def tied(lows_and_highs):
    """A tube of Python's own numbers, its ends tied to their lows."""
    pairs = [(Fraction(low), Fraction(high)) for low, high in lows_and_highs]
    pairs[0] = (pairs[0][0], pairs[0][0])
    pairs[-1] = (pairs[-1][0], pairs[-1][0])
    return tuple((num(low), num(high)) for low, high in pairs)


def drawn_number(source, kind):
    if kind == "small":
        return Fraction(source.randint(-4, 4))
    if kind == "parts":
        return Fraction(source.randint(-9, 9), source.choice((1, 2, 3)))
    return frac(great_number(source))


def open_tube(lows_and_highs):
    """A tube of Python's own numbers, as they stand."""
    return tuple((num(low), num(high)) for low, high in lows_and_highs)


def drawn_bounds(source, places, kind):
    """Bounds of one of these kinds: small, parts, great, narrow, straight, touching."""
    if kind in ("small", "parts", "great"):
        return [sorted((drawn_number(source, kind), drawn_number(source, kind))) for k in range(places)]
    if kind == "narrow":
        bases = [Fraction(source.randint(-10 ** 9, 10 ** 9), 10 ** 6) for k in range(places)]
        return [(base, base + Fraction(source.randint(0, 2), 10 ** 6)) for base in bases]
    if kind == "straight":
        slope = Fraction(source.randint(-5, 5), source.randint(1, 4))
        return [(slope * k - source.randint(0, 3) * (0 < k < places - 1), slope * k + source.randint(0, 3))
                for k in range(places)]
    return [source.choice(((0, 0), (0, 1), (1, 1), (-1, 0), (0, 2), (k % 2, k % 2 + 1))) for k in range(places)]


def drawn_tube(source, places, kind):
    """A tied tube of bounds of a kind."""
    return tied(drawn_bounds(source, places, kind))


KINDS = ("small", "parts", "great", "narrow", "straight", "touching")


def drawn_tubes(seed, rounds, sizes):
    """Tied tubes of all kinds, each round with one of the sizes for each kind."""
    source = drawn(seed)
    for k in range(rounds):
        for kind in KINDS:
            yield drawn_tube(source, source.choice(sizes), kind)


def drawn_open_tubes(seed, rounds, sizes):
    """Tubes of all kinds, tied or not, each round with one of the sizes for each kind."""
    source = drawn(seed)
    for k in range(rounds):
        for kind in KINDS:
            yield open_tube(drawn_bounds(source, source.choice(sizes), kind))


def drawn_rows(source, tube, many):
    """Rows of a tube: at its lows, at its highs, at either, and between."""
    rows = [tuple(low for low, high in tube), tuple(high for low, high in tube)]
    for k in range(many):
        rows.append(tuple(source.choice(place) for place in tube))
        rows.append(nums(frac(low) + (frac(high) - frac(low)) * Fraction(source.randint(0, 6), 6)
                         for low, high in tube))
    return rows


def steps_of(row):
    heights = fracs(row)
    return [after - ahead for ahead, after in zip(heights, heights[1:])]


def is_surely_taut(tube, row):
    """Whether a row is the cord of a tied tube, by the words alone."""
    if len(row) != len(tube):
        return False
    climbs = steps_of(row)
    for at, (low, high) in enumerate(tube):
        if not frac(low) <= frac(row[at]) <= frac(high):
            return False
        if 0 < at < len(tube) - 1:
            if climbs[at] > climbs[at - 1] and row[at] != high:
                return False
            if climbs[at] < climbs[at - 1] and row[at] != low:
                return False
    return True


def has_sure_touches(tube, row, climbs_to, climbs_on):
    """Whether a row is in its tube and has the high where it bends up, the low where it bends down."""
    for (low, high), one, ahead, on in zip(tube, row, climbs_to, climbs_on, strict=True):
        if not frac(low) <= frac(one) <= frac(high):
            return False
        if on > ahead and one != high or on < ahead and one != low:
            return False
    return True


def least_level(tube):
    """The row at the least height that is in all bounds, or None."""
    height = max(frac(low) for low, high in tube)
    return nums([height] * len(tube)) if all(frac(high) >= height for low, high in tube) else None


def straight_between(fixed):
    """The heights from the first to the last of some (place, height), straight between each two."""
    heights = [fixed[0][1]]
    for (begin, height), (end, other) in zip(fixed, fixed[1:]):
        heights += [height + (other - height) * k / (end - begin) for k in range(1, end - begin + 1)]
    return heights


def rows_of_sixths(tube):
    """All rows of a tube of whole numbers whose heights are sixths."""
    return product(*([num(Fraction(k, 6)) for k in range(6 * low[0], 6 * high[0] + 1)] for low, high in tube))


def drawn_point(source, climbs):
    """A number at, near or away from some steps."""
    return source.choice(climbs) + source.choice((0, 0, Fraction(1, 3), -1, source.randint(-9, 9)))


def drawn_weight(source):
    return num(Fraction(source.randint(1, 9), source.randint(1, 4)))


def drawn_measure(source, climbs):
    """A measure with points at, near and away from some steps."""
    return tuple((source.choice(("above", "below")), num(drawn_point(source, climbs)), drawn_weight(source))
                 for k in range(source.randint(1, 6)))


def drawn_measure_at_nought(source, climbs):
    """A measure least at nought, with points at, near and away from some steps."""
    parts = []
    for k in range(source.randint(1, 6)):
        point = drawn_point(source, climbs)
        side = "above" if point > 0 else "below" if point < 0 else source.choice(("above", "below"))
        parts.append((side, num(point), drawn_weight(source)))
    return tuple(parts)


def drawn_data(source, many):
    """Data: great ones, small ones, or such with many neighbours alike."""
    draw = source.choice((great_number, small_number, lambda source: num(source.randint(0, 1))))
    return tuple(draw(source) for k in range(many))


def drawn_price(source, data):
    """A price: 0, a small one, a great one, or one of the size of what data differ by."""
    apart = max(fracs(data)) - min(fracs(data))
    return num(source.choice((0, Fraction(1, 3), source.randint(1, 10 ** 9),
                              apart * Fraction(source.randint(0, 12), source.randint(1, 12)))))


def drawn_stores(seed, rounds, lengths):
    """Needs, 0 among them, and a room."""
    source = drawn(seed)
    for k in range(rounds):
        for many in lengths:
            needs = nums(source.choice((1, 1, 1, 0)) * abs(one) for one in fracs(drawn_data(source, many)))
            yield needs, drawn_price(source, needs)


def drawn_work(source):
    work = source.choice((great_number, small_number))(source)
    return num(abs(frac(work)) or Fraction(1, 7))


def drawn_jobs(source, many, hours):
    """Jobs with arrivals and dues not falling, some of neighbours alike."""
    while True:
        arrivals = sorted(source.randint(0, hours - 1) for k in range(many))
        dues = sorted(source.randint(1, hours) for k in range(many))
        if source.random() < 0.5:
            dues = sorted(max(due, arrival + 1) for due, arrival in zip(dues, arrivals))
        if all(arrival < due for arrival, due in zip(arrivals, dues)):
            return tuple((arrival, due, drawn_work(source)) for arrival, due in zip(arrivals, dues))


def all_jobs(seed, rounds):
    source = drawn(seed)
    for k in range(rounds):
        for many in range(1, 13):
            yield drawn_jobs(source, many, source.choice((1, 2, 3, 6, 12, 24, 24)))


def shown(places, begin, height, side):
    """The touch through a high (side 1) or a low (side 0) behind another one, and all places that show it, by words."""
    sign = 1 if side else -1
    highs = [sign * frac(place[side]) for place in places]
    lows = [sign * frac(place[1 - side]) for place in places]
    height *= sign
    for at in range(begin + 1, len(places)):
        line = [height + (highs[at] - height) * (k - begin) / (at - begin) for k in range(len(places))]
        if any(highs[k] < line[k] or lows[k] > line[k] for k in range(begin + 1, at + 1)):
            continue
        by = [later for later in range(at + 1, len(places))
              if lows[later] > line[later] and all(highs[k] > line[k] for k in range(at + 1, later))]
        if by:
            return ((at, places[at][side]), by)
    return None


def touches_and_places(places):
    """All settled touches, each with all places that show it, by the words alone."""
    found = []
    begin, height = 0, frac(places[0][0])
    while True:
        both = [touch for touch in (shown(places, begin, height, 0), shown(places, begin, height, 1)) if touch]
        if not both:
            return found
        assert len(both) == 1
        found += both
        begin, height = both[0][0][0], frac(both[0][0][1])


def touches_by_words(places):
    return tuple(touch for touch, by in touches_and_places(places))


def drawn_places(seed, rounds, sizes):
    """Bounds that begin with a tied place, of all kinds, and such that go on and on between two lines."""
    source = drawn(seed)
    for k in range(rounds):
        for kind in KINDS:
            tube = open_tube(drawn_bounds(source, source.choice(sizes), kind))
            yield ((tube[0][0],) * 2,) + tube[1:]
        base, wide = Fraction(source.randint(-3, 3)), source.randint(1, 6)
        bounds = [(base * k + source.randint(-2, 0) - wide, base * k + wide + source.randint(0, 2))
                  for k in range(1, source.choice(sizes))]
        yield (nums((0, 0)),) + open_tube(bounds)


WORDS = (
    "taut", "loose", "ring", "leveller", "no leveller", "not taut", "smooth", "stair", "settled", "store", "speeds",
    "done",
)


def is_exactly(thing, kind, least=0, most=10 ** 9):
    return thing.__class__ is kind and least <= len(thing) <= most


def is_num(thing):
    if not is_exactly(thing, tuple, 2, 2) or any(part.__class__ is not int for part in thing):
        return False
    return thing[1] >= 1 and gcd(*thing) == 1


def are_nums(thing, least, most):
    return is_exactly(thing, tuple, least, most) and all(map(is_num, thing))


def are_bounds(thing, least=2, most=25):
    if not is_exactly(thing, tuple, least, most):
        return False
    return all(are_nums(place, 2, 2) and frac(place[0]) <= frac(place[1]) for place in thing)


def are_tied_bounds(thing):
    return are_bounds(thing) and all(thing[at][0] == thing[at][1] for at in (0, -1))


def is_surely_row(tube, thing):
    if not are_nums(thing, len(tube), len(tube)):
        return False
    return all(frac(low) <= frac(one) <= frac(high) for one, (low, high) in zip(thing, tube))


def are_surely_jobs(thing):
    if not is_exactly(thing, tuple, 1, 12) or not all(is_exactly(job, tuple, 3, 3) for job in thing):
        return False
    for arrival, due, work in thing:
        if arrival.__class__ is not int or due.__class__ is not int or not 0 <= arrival < due <= 24:
            return False
        if not is_num(work) or work[0] <= 0:
            return False
    hours = [job[:2] for job in thing]
    return all(one[0] <= other[0] and one[1] <= other[1] for one, other in zip(hours, hours[1:]))


def is_alike(one, other):
    """Whether two things are the same to the letter: 1 is not True, a list no tuple."""
    return repr(one) == repr(other)


def judge_level(tube, row, told):
    """Whether a row is level within all bounds, or, where none is, the one that is told."""
    if least_level(tube) is None:
        return is_alike(row, told)
    return is_surely_row(tube, row) and len(set(row)) == 1


def judge_leveller(given, other, paper):
    if not are_nums(given, 1, 24) or not are_nums(other, 1, 24) or paper.__class__ is not tuple:
        return False
    walked = fracs(other)
    for one in paper:
        if not is_exactly(one, tuple, 3, 3) or any(at.__class__ is not int for at in one[:2]) or not is_num(one[2]):
            return False
        i, j, amount = one[0], one[1], frac(one[2])
        if i not in range(len(walked)) or j not in range(len(walked)) or not 0 < amount <= walked[i] - walked[j]:
            return False
        walked[i] -= amount
        walked[j] += amount
    return walked == fracs(given)


def judge_no_leveller(given, other, paper):
    if not are_nums(given, 1, 24) or not are_nums(other, len(given), len(given)):
        return False
    if paper is None:
        return sum(fracs(given)) != sum(fracs(other))
    if paper.__class__ is not int or paper not in range(1, len(given) + 1):
        return False
    return sum(sorted(fracs(given))[-paper:]) > sum(sorted(fracs(other))[-paper:])


def judge_not_taut(tube, row, paper):
    if not are_tied_bounds(tube) or not is_surely_row(tube, row) or not is_surely_row(tube, paper):
        return False
    return sum(step ** 2 for step in steps_of(paper)) < sum(step ** 2 for step in steps_of(row))


def judge_settled(tube, touches, paper):
    if not are_bounds(tube) or tube[0][0] != tube[0][1] or touches.__class__ is not tuple:
        return False
    found = touches_and_places(tube)[:len(touches)]
    if not is_alike(touches, tuple(touch for touch, by in found)) or not is_exactly(paper, tuple, len(found), len(found)):
        return False
    return all(place.__class__ is int and place in by for place, (touch, by) in zip(paper, found))


def judge_done(jobs, given, shares):
    if not are_surely_jobs(jobs) or not are_nums(given, jobs[-1][1], jobs[-1][1]):
        return False
    if not is_exactly(shares, tuple, len(jobs), len(jobs)):
        return False
    done = [Fraction(0)] * len(given)
    for (arrival, due, work), own in zip(jobs, shares):
        if own.__class__ is not tuple or not all(is_exactly(one, tuple, 2, 2) and is_num(one[1]) for one in own):
            return False
        hours = [hour for hour, part in own]
        if any(hour.__class__ is not int for hour in hours) or hours != sorted(set(hours)):
            return False
        if any(hour < arrival or hour + 1 > due or part[0] <= 0 for hour, part in own):
            return False
        if sum(frac(part) for hour, part in own) != frac(work):
            return False
        for hour, part in own:
            done[hour] += frac(part)
    return done == fracs(given)


def is_price(thing):
    return is_num(thing) and thing[0] >= 0


JUDGES = {
    "taut": lambda tube, row: are_tied_bounds(tube) and is_alike(row, cord(tube)),
    "loose": lambda tube, row: are_bounds(tube) and judge_level(tube, row, loose_cord(tube)),
    "ring": lambda tube, row: are_bounds(tube, 3, 24) and judge_level(tube, row, ring_cord(tube)),
    "smooth": lambda data, price, row: (
        are_nums(data, 1, 24) and is_price(price) and is_alike(row, smoothed(data, price))),
    "stair": lambda data, told: are_nums(data, 1, 24) and is_alike(told, stair(data)),
    "store": lambda needs, room, plan: (
        are_nums(needs, 1, 24) and all(map(is_price, needs)) and is_price(room) and is_alike(plan, bought(needs, room))),
    "speeds": lambda jobs, given: are_surely_jobs(jobs) and is_alike(given, speeds(jobs)),
    "done": judge_done,
}
JUDGES_WITH_PAPER = {
    "leveller": judge_leveller, "no leveller": judge_no_leveller, "not taut": judge_not_taut, "settled": judge_settled,
}


def surely_holds(claim, paper):
    """Whether claim and paper are as the document tells, by its words and by what the functions tell."""
    if claim.__class__ is not tuple or not claim or claim[0].__class__ is not str or claim[0] not in WORDS:
        return False
    word, *parts = claim
    if len(parts) != (3 if word in ("smooth", "store", "done") else 2):
        return False
    if word in JUDGES_WITH_PAPER:
        return JUDGES_WITH_PAPER[word](*parts, paper)
    return paper is None and JUDGES[word](*parts)


def other_plain(thing):
    """Another thing in the place of one that is no tuple."""
    if thing is None:
        return [0, 1, False, True, (), [], {}, "", "None", ((0, 1),), (None,)]
    if isinstance(thing, str):
        return [word for word in WORDS if word != thing] + ["", thing + " ", thing.upper(), (thing,), None, 0]
    return [thing + 1, thing - 1, -thing, 2 * thing, str(thing), None, (thing,), [thing]] + [bool(thing)] * (thing in (0, 1))


def put_otherwise(thing):
    """The thing with one of its parts, at every place and depth, put otherwise, one more or fewer, or exchanged."""
    if not isinstance(thing, tuple):
        yield from other_plain(thing)
        return
    yield from ([*thing], {**dict(enumerate(thing))}, thing + thing[-1:], thing[:1] + thing, thing[:-1], thing[1:],
                thing + (None,), (thing,), None, thing[::-1])
    if is_num(thing):
        yield from ((2 * thing[0], 2 * thing[1]), (-thing[0], -thing[1]))
        yield from (num(frac(thing) + little) for little in (
            1, -1, Fraction(1, 2), Fraction(-1, 2), Fraction(1, 3), Fraction(-1, 3), Fraction(1, 10 ** 6), -2 * frac(thing)))
    for at, part in enumerate(thing):
        for other in range(at):
            changed = list(thing)
            changed[at], changed[other] = changed[other], part
            yield tuple(changed)
        for other in put_otherwise(part):
            yield thing[:at] + (other,) + thing[at + 1:]
