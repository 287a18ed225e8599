"""What the tests share: calls by name, and slow answers straight from the words."""

from itertools import combinations, combinations_with_replacement

from homeranges.ranges import answers

LOW = -9223372036854775808
HIGH = 9223372036854775807
NINE = [(k, k * k) for k in range(9)]


def see(a, x, y):
    return [0, a, x, y]


def forget(a, i):
    return [1, a, i]


def told(a):
    return [2, a]


def clear(a):
    return [3, a]


def join(a, b, c):
    return [4, a, b, c]


def shift(a, x, y):
    return [5, a, x, y]


def turn(a):
    return [6, a]


def hull(a):
    return [7, a]


def area(a):
    return [8, a]


def where(a, x, y):
    return [9, a, x, y]


def flat(rows):
    return [number for row in rows for number in row]


def seen(a, places):
    return [see(a, x, y) for x, y in places]


def told_all():
    return [told(a) for a in range(4)]


def split(given):
    """The answers as rows; fails if the counts before them don't add up."""
    rows = []
    at = 0
    while at < len(given):
        count = given[at]
        assert 0 < count < 40 and at + 1 + count <= len(given), given
        rows.append(given[at + 1:at + 1 + count])
        at += 1 + count
    return rows


def run(rows):
    given = split(answers(flat(rows)))
    assert len(given) == len(rows), (rows, given)
    return given


def last(places, call):
    """The answer to one call once animal 0 was seen at the places."""
    return run(seen(0, places) + [call])[-1]


def turn_of(a, b, c):
    return (b[0] - a[0]) * (c[1] - a[1]) - (b[1] - a[1]) * (c[0] - a[0])


def in_triangle(a, b, c, place):
    turns = [turn_of(a, b, place), turn_of(b, c, place), turn_of(c, a, place)]
    if turn_of(a, b, c) != 0:
        return min(turns) >= 0 or max(turns) <= 0
    least = (min(a[0], b[0], c[0]), min(a[1], b[1], c[1]))
    most = (max(a[0], b[0], c[0]), max(a[1], b[1], c[1]))
    inside_box = all(least[k] <= place[k] <= most[k] for k in (0, 1))
    return inside_box and turns == [0, 0, 0]


def in_range(places, place):
    """In the plane a point of the range lies in a triangle of three sightings."""
    threes = combinations_with_replacement(sorted(set(places)), 3)
    return any(in_triangle(a, b, c, place) for a, b, c in threes)


def slow_where(places, place):
    """On the rim is what has a line through it with no sighting beyond it."""
    if not in_range(places, place):
        return 0
    others = [other for other in places if other != place]
    if not others:
        return 2
    for other in others:
        turns = [turn_of(place, other, sighting) for sighting in places]
        if min(turns) >= 0 or max(turns) <= 0:
            return 2
    return 1


def slow_corners(places):
    """The places that the range of the others doesn't hold, in no order."""
    apart = set(places)
    return {place for place in apart if not in_range(apart - {place}, place)}


def slow_area(places):
    """Counts the grid's places one by one; the area by Pick's theorem."""
    if not places:
        return [0, 0, 0]
    xs = [x for x, y in places]
    ys = [y for x, y in places]
    counts = [0, 0, 0]
    for x in range(min(xs), max(xs) + 1):
        for y in range(min(ys), max(ys) + 1):
            counts[slow_where(places, (x, y))] += 1
    flat_range = all(turn_of(a, b, c) == 0 for a, b, c in combinations(places, 3))
    twice = 0 if flat_range else 2 * counts[1] + counts[2] - 2
    return [twice, counts[2], counts[1]]
