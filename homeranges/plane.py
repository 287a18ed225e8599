"""Convex shapes on the grid, over places (x, y) and told by their corners."""

from homeranges.fraction import common_divisor

OUTSIDE = 0
WITHIN = 1
ON_RIM = 2


def turn_of(a, b, c):
    return (b[0] - a[0]) * (c[1] - a[1]) - (b[1] - a[1]) * (c[0] - a[0])


def along(a, b, c):
    """How far c lies in the direction from a to b, times the length of that way."""
    return (b[0] - a[0]) * (c[0] - a[0]) + (b[1] - a[1]) * (c[1] - a[1])


def square(a, b):
    """The square of the distance of two places."""
    return along(a, b, b)


def left_chain(places):
    """The places at which a way along sorted places has to turn left."""
    kept = []
    for place in places:
        # A turn of 0 goes too: a place between two others is no corner.
        while len(kept) > 1 and turn_of(kept[-2], kept[-1], place) <= 0:
            kept.pop()
        kept.append(place)
    return kept


def corners_of(sightings):
    """The range's corners, against the clock from the least by x, then y."""
    places = sorted(set(sightings))
    if len(places) < 2:
        return places
    lower = left_chain(places)
    upper = left_chain(sorted(places, reverse=True))
    # Each chain ends where the other one begins.
    return lower[:-1] + upper[:-1]


def sides_of(corners):
    """The ways from corner to corner; of one corner alone a way to itself."""
    return [(corners[k - 1], corners[k]) for k in range(len(corners))]


def twice_area(corners):
    return sum([turn_of(corners[0], side[0], side[1]) for side in sides_of(corners)])


def steps(a, b):
    """Into how many parts the grid's places cut the way from a to b."""
    return common_divisor(abs(b[0] - a[0]), abs(b[1] - a[1]))


def rim_count(corners):
    if len(corners) == 1:
        return 1
    if len(corners) == 2:
        # One way, not a way there and back: both its ends count.
        return steps(corners[0], corners[1]) + 1
    return sum([steps(side[0], side[1]) for side in sides_of(corners)])


def inner_count(corners):
    if len(corners) < 3:
        return 0
    # Pick's theorem: twice the area is 2 * within + rim - 2.
    return (twice_area(corners) - rim_count(corners) + 2) // 2


def between(low, number, high):
    return min(low, high) <= number <= max(low, high)


def on_way(a, b, place):
    """Whether the place lies on the straight way from a to b, ends and all."""
    if turn_of(a, b, place) != 0:
        return False
    # Both are asked, for an upright way has one x and a level one has one y.
    return between(a[0], place[0], b[0]) and between(a[1], place[1], b[1])


def standing(corners, place):
    """OUTSIDE, WITHIN or ON_RIM: how the place lies to the range."""
    if len(corners) == 0:
        return OUTSIDE
    if len(corners) < 3:
        return ON_RIM if on_way(corners[0], corners[-1], place) else OUTSIDE
    least = min([turn_of(side[0], side[1], place) for side in sides_of(corners)])
    if least < 0:
        return OUTSIDE
    return WITHIN if least > 0 else ON_RIM


def holds(corners, place):
    return standing(corners, place) != OUTSIDE
