"""The calls on one herd, answered in their order.

A herd is a list with one list of sightings for each animal; a sighting is
a place (x, y). Each call's function takes the herd and the call's numbers,
all of them in their ranges, and gives back the numbers of its answer.
"""

from homeranges.plane import corners_of, inner_count, rim_count, standing, twice_area

ANIMALS = 4
MOST_SIGHTINGS = 9
EDGE = 1000

NOT_IN_RANGE = -1
TOO_MANY = -3
OVER_EDGE = -4


def counted(places):
    """How many places, then x and y of each."""
    told_numbers = [len(places)]
    for place in places:
        told_numbers.append(place[0])
        told_numbers.append(place[1])
    return told_numbers


def on_grid(number):
    return -EDGE <= number <= EDGE


def see(herd, row):
    sightings = herd[row[0]]
    if len(sightings) == MOST_SIGHTINGS:
        return [TOO_MANY]
    sightings.append((row[1], row[2]))
    return [len(sightings)]


def forget(herd, row):
    sightings = herd[row[0]]
    sightings.pop(row[1])
    return [len(sightings)]


def told(herd, row):
    return counted(herd[row[0]])


def clear(herd, row):
    had = len(herd[row[0]])
    herd[row[0]] = []
    return [had]


def join(herd, row):
    # A new list, for the animal that gets it may be one of the two joined.
    joined = herd[row[0]] + herd[row[1]]
    if len(joined) > MOST_SIGHTINGS:
        return [TOO_MANY]
    herd[row[2]] = joined
    return [len(joined)]


def shift(herd, row):
    moved = [(place[0] + row[1], place[1] + row[2]) for place in herd[row[0]]]
    for place in moved:
        if not on_grid(place[0]) or not on_grid(place[1]):
            return [OVER_EDGE]
    herd[row[0]] = moved
    return [0]


def turn(herd, row):
    herd[row[0]] = [(-place[1], place[0]) for place in herd[row[0]]]
    return [0]


def hull(herd, row):
    return counted(corners_of(herd[row[0]]))


def area(herd, row):
    corners = corners_of(herd[row[0]])
    return [twice_area(corners), rim_count(corners), inner_count(corners)]


def where(herd, row):
    return [standing(corners_of(herd[row[0]]), (row[1], row[2]))]


# By the call's number: the function that answers it, and what its numbers
# are, a sign each: "a" an animal, "i" one of the first animal's sightings,
# "p" an x or a y of a place.
CALLS = (see, forget, told, clear, join, shift, turn, hull, area, where)
SIGNS = ("app", "ai", "a", "a", "aaa", "app", "a", "a", "a", "app")


def in_range(herd, sign, row, k):
    if sign == "a":
        return 0 <= row[k] < ANIMALS
    if sign == "i":
        return 0 <= row[k] < len(herd[row[0]])
    return on_grid(row[k])


def all_in_range(herd, signs, row):
    # In order, so that the animal is sure before its sightings are counted.
    for k, sign in enumerate(signs):
        if not in_range(herd, sign, row, k):
            return False
    return True


def answer(herd, number, row):
    if not all_in_range(herd, SIGNS[number], row):
        return [NOT_IN_RANGE]
    act = CALLS[number]
    return act(herd, row)


def answers(calls):
    """The answers to a list of calls, each with its length before it."""
    herd = [[] for animal in range(ANIMALS)]
    given = []
    start = 0
    while start < len(calls):
        number = calls[start]
        end = start + 1 + len(SIGNS[number])
        answered = answer(herd, number, calls[start + 1:end])
        given.append(len(answered))
        given.extend(answered)
        start = end
    return given
