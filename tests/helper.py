"""What the tests share: calls by name, and slow answers straight from the words."""

import random
from fractions import Fraction
from itertools import combinations, combinations_with_replacement

from homeranges.ranges import answers

LOW = -9223372036854775808
HIGH = 9223372036854775807
NINE = [(k, k * k) for k in range(9)]


def see(a, x, y):
    return [0, a, x, y]


def forget(a, i):
    return [1, a, i]


def told(a):
    return [2, a]


def clear(a):
    return [3, a]


def join(a, b, c):
    return [4, a, b, c]


def shift(a, x, y):
    return [5, a, x, y]


def turn(a):
    return [6, a]


def hull(a):
    return [7, a]


def area(a):
    return [8, a]


def where(a, x, y):
    return [9, a, x, y]


def depth(a, x, y):
    return [10, a, x, y]


def layers(a):
    return [11, a]


def least(a, k):
    return [12, a, k]


def extent(a, x, y):
    return [13, a, x, y]


def widest(a):
    return [14, a]


def halves(a, x, y, u, v):
    return [15, a, x, y, u, v]


def mean(a):
    return [16, a]


def overlap(a, b):
    return [17, a, b]


def meet(a, b):
    return [18, a, b]


def gap(a, b):
    return [19, a, b]


def flat(rows):
    return [number for row in rows for number in row]


def seen(a, places):
    return [see(a, x, y) for x, y in places]


def told_all():
    return [told(a) for a in range(4)]


def split(given):
    """The answers as rows; fails if the counts before them don't add up."""
    rows = []
    at = 0
    while at < len(given):
        count = given[at]
        assert 0 < count < 40 and at + 1 + count <= len(given), given
        rows.append(given[at + 1:at + 1 + count])
        at += 1 + count
    return rows


def run(rows):
    given = split(answers(flat(rows)))
    assert len(given) == len(rows), (rows, given)
    return given


def last(places, call):
    """The answer to one call once animal 0 was seen at the places."""
    return run(seen(0, places) + [call])[-1]


def last_of_two(places, others, call):
    """The answer to one call once animals 0 and 1 were seen at the places."""
    return run(seen(0, places) + seen(1, others) + [call])[-1]


def small_lists():
    """Lists of each length, many with places again and again or on one line."""
    source = random.Random(20)
    for number in range(150):
        reach = source.choice((1, 2, 3))
        yield [(source.randint(-reach, reach), source.randint(-reach, reach)) for k in range(number % 10)]
    for number in range(30):
        step = (source.randint(-2, 2), source.randint(-2, 2))
        yield [(step[0] * k, step[1] * k) for k in source.choices((-1, 0, 1, 2), k=number % 10)]


def turn_of(a, b, c):
    return (b[0] - a[0]) * (c[1] - a[1]) - (b[1] - a[1]) * (c[0] - a[0])


def in_triangle(a, b, c, place):
    turns = [turn_of(a, b, place), turn_of(b, c, place), turn_of(c, a, place)]
    if turn_of(a, b, c) != 0:
        return min(turns) >= 0 or max(turns) <= 0
    least = (min(a[0], b[0], c[0]), min(a[1], b[1], c[1]))
    most = (max(a[0], b[0], c[0]), max(a[1], b[1], c[1]))
    inside_box = all(least[k] <= place[k] <= most[k] for k in (0, 1))
    return inside_box and turns == [0, 0, 0]


def in_range(places, place):
    """In the plane a point of the range lies in a triangle of three sightings."""
    threes = combinations_with_replacement(sorted(set(places)), 3)
    return any(in_triangle(a, b, c, place) for a, b, c in threes)


def slow_where(places, place):
    """On the rim is what has a line through it with no sighting beyond it."""
    if not in_range(places, place):
        return 0
    others = [other for other in places if other != place]
    if not others:
        return 2
    for other in others:
        turns = [turn_of(place, other, sighting) for sighting in places]
        if min(turns) >= 0 or max(turns) <= 0:
            return 2
    return 1


def slow_corners(places):
    """The places that the range of the others doesn't hold, in no order."""
    apart = set(places)
    return {place for place in apart if not in_range(apart - {place}, place)}


def slow_area(places):
    """Counts the grid's places one by one; the area by Pick's theorem."""
    if not places:
        return [0, 0, 0]
    xs = [x for x, y in places]
    ys = [y for x, y in places]
    counts = [0, 0, 0]
    for x in range(min(xs), max(xs) + 1):
        for y in range(min(ys), max(ys) + 1):
            counts[slow_where(places, (x, y))] += 1
    flat_range = all(turn_of(a, b, c) == 0 for a, b, c in combinations(places, 3))
    twice = 0 if flat_range else 2 * counts[1] + counts[2] - 2
    return [twice, counts[2], counts[1]]


def slow_depth(places, place):
    """Leaves out each set of sightings, the small ones first."""
    for m in range(len(places) + 1):
        for rest in combinations(places, len(places) - m):
            if not in_range(rest, place):
                return m


def slow_layers(places):
    found = {}
    while len(found) < len(places):
        rest = [place for k, place in enumerate(places) if k not in found]
        layer = 1 + max(found.values(), default=0)
        rim = {place for place in rest if slow_where(rest, place) == 2}
        found.update({k: layer for k, place in enumerate(places) if k not in found and place in rim})
    return [found[k] for k in range(len(places))]


def slow_least(places, size):
    """The areas are asked of the program, the sets are gone through here."""
    found = []
    for out in combinations(range(len(places)), size):
        rest = [place for k, place in enumerate(places) if k not in out]
        found.append([last(rest, area(0))[0]] + list(out))
    return min(found)


def chords(places):
    return list(combinations_with_replacement(sorted(set(places)), 2))


def slice_of(places, x):
    """From which y to which the range goes at an x that it has."""
    ys = []
    for a, b in chords(places):
        if a[0] == b[0] == x:
            ys.extend([a[1], b[1]])
        elif a[0] <= x <= b[0] and a[0] < b[0]:
            ys.append(a[1] + Fraction(b[1] - a[1], b[0] - a[0]) * (x - a[0]))
    return min(ys), max(ys)


def crossing_xs(places, others):
    """The x of each point where a line through two places meets one through two others."""
    for a, b in chords(places):
        for c, d in chords(others):
            across = (b[0] - a[0]) * (d[1] - c[1]) - (b[1] - a[1]) * (d[0] - c[0])
            if across != 0:
                yield a[0] + Fraction(turn_of(c, d, a), across) * (b[0] - a[0])


def slow_overlap(places, others):
    """Upright slices: how long the common one is goes straight from bend to bend."""
    if not places or not others:
        return [0, 1]
    low = max(min(places)[0], min(others)[0])
    high = min(max(places)[0], max(others)[0])
    bends = {x for x, y in places + others} | set(crossing_xs(places, others))
    xs = sorted(x for x in bends if low <= x <= high)
    lengths = []
    for x in xs:
        one, other = slice_of(places, x), slice_of(others, x)
        lengths.append(max(0, min(one[1], other[1]) - max(one[0], other[0])))
    twice = sum((lengths[k] + lengths[k + 1]) * (xs[k + 1] - xs[k]) for k in range(len(xs) - 1))
    return list(Fraction(twice).as_integer_ratio())


def slow_gap(places, others):
    """The distance of (0, 0) from the range of all differences of a place and another."""
    differences = {(a[0] - b[0], a[1] - b[1]) for a in places for b in others}
    if in_range(differences, (0, 0)):
        return [0, 1]
    found = []
    for a, b in chords(differences):
        step = (b[0] - a[0], b[1] - a[1])
        length = step[0] ** 2 + step[1] ** 2
        share = Fraction(-(a[0] * step[0] + a[1] * step[1]), length) if length else Fraction(0)
        share = min(max(share, Fraction(0)), Fraction(1))
        found.append((a[0] + share * step[0]) ** 2 + (a[1] + share * step[1]) ** 2)
    return list(min(found).as_integer_ratio())
