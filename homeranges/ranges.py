"""The calls on one herd, answered in their order.

A herd is a list with one list of sightings for each animal; a sighting is
a place (x, y). Each call's function takes the herd and the call's numbers,
all of them in their ranges, and gives back the numbers of its answer.
"""

from homeranges.fraction import lowest
from homeranges.pairs import gap_square, meeting, twice_common_area
from homeranges.plane import corners_of, inner_count, rim_count, standing, turn_of, twice_area
from homeranges.spread import depth_of, layers_of, least_without, widest_pair

ANIMALS = 4
MOST_SIGHTINGS = 9
EDGE = 1000
MOST_LEFT_OUT = 3

NOT_IN_RANGE = -1
TOO_MANY = -3
OVER_EDGE = -4
TOO_FEW = -5
NO_LINE = -6


def counted(places):
    """How many places, then x and y of each."""
    told_numbers = [len(places)]
    for place in places:
        told_numbers.append(place[0])
        told_numbers.append(place[1])
    return told_numbers


def on_grid(number):
    return -EDGE <= number <= EDGE


def see(herd, row):
    sightings = herd[row[0]]
    if len(sightings) == MOST_SIGHTINGS:
        return [TOO_MANY]
    sightings.append((row[1], row[2]))
    return [len(sightings)]


def forget(herd, row):
    sightings = herd[row[0]]
    sightings.pop(row[1])
    return [len(sightings)]


def told(herd, row):
    return counted(herd[row[0]])


def clear(herd, row):
    had = len(herd[row[0]])
    herd[row[0]] = []
    return [had]


def join(herd, row):
    # A new list, for the animal that gets it may be one of the two joined.
    joined = herd[row[0]] + herd[row[1]]
    if len(joined) > MOST_SIGHTINGS:
        return [TOO_MANY]
    herd[row[2]] = joined
    return [len(joined)]


def shift(herd, row):
    moved = [(place[0] + row[1], place[1] + row[2]) for place in herd[row[0]]]
    for place in moved:
        if not on_grid(place[0]) or not on_grid(place[1]):
            return [OVER_EDGE]
    herd[row[0]] = moved
    return [0]


def turn(herd, row):
    herd[row[0]] = [(-place[1], place[0]) for place in herd[row[0]]]
    return [0]


def hull(herd, row):
    return counted(corners_of(herd[row[0]]))


def area(herd, row):
    corners = corners_of(herd[row[0]])
    return [twice_area(corners), rim_count(corners), inner_count(corners)]


def where(herd, row):
    return [standing(corners_of(herd[row[0]]), (row[1], row[2]))]


def depth(herd, row):
    return [depth_of(herd[row[0]], (row[1], row[2]))]


def layers(herd, row):
    found = layers_of(herd[row[0]])
    return [len(found)] + found


def least(herd, row):
    sightings = herd[row[0]]
    if len(sightings) < row[1]:
        return [TOO_FEW]
    return least_without(sightings, row[1])


def extent(herd, row):
    reaches = [row[1] * place[0] + row[2] * place[1] for place in herd[row[0]]]
    if len(reaches) == 0:
        return [TOO_FEW]
    greatest = max(reaches)
    return [0, greatest, reaches.index(greatest)]


def widest(herd, row):
    sightings = herd[row[0]]
    if len(sightings) < 2:
        return [TOO_FEW]
    return widest_pair(sightings)


def halves(herd, row):
    start = (row[1], row[2])
    end = (row[3], row[4])
    if start == end:
        return [NO_LINE]
    turns = [turn_of(start, end, place) for place in herd[row[0]]]
    to_left = len([number for number in turns if number > 0])
    on_line = turns.count(0)
    return [to_left, on_line, len(turns) - to_left - on_line]


def mean(herd, row):
    sightings = herd[row[0]]
    count = len(sightings)
    if count == 0:
        return [TOO_FEW]
    mean_x = lowest(sum([place[0] for place in sightings]), count)
    mean_y = lowest(sum([place[1] for place in sightings]), count)
    return [0] + list(mean_x) + list(mean_y)


def overlap(herd, row):
    return list(twice_common_area(corners_of(herd[row[0]]), corners_of(herd[row[1]])))


def meet(herd, row):
    both = meeting(corners_of(herd[row[0]]), corners_of(herd[row[1]]))
    return [1 if both else 0]


def gap(herd, row):
    corners = corners_of(herd[row[0]])
    others = corners_of(herd[row[1]])
    if len(corners) == 0 or len(others) == 0:
        return [TOO_FEW]
    return list(gap_square(corners, others))


# By the call's number: the function that answers it, and what its numbers
# are, a sign each: "a" an animal, "i" one of the first animal's sightings,
# "k" how many to leave out, "p" an x or a y.
CALLS = (see, forget, told, clear, join, shift, turn, hull, area, where,
         depth, layers, least, extent, widest, halves, mean, overlap, meet, gap)
SIGNS = ("app", "ai", "a", "a", "aaa", "app", "a", "a", "a", "app",
         "app", "a", "ak", "app", "a", "apppp", "a", "aa", "aa", "aa")


def in_range(herd, sign, row, k):
    if sign == "a":
        return 0 <= row[k] < ANIMALS
    if sign == "i":
        return 0 <= row[k] < len(herd[row[0]])
    if sign == "k":
        return 0 <= row[k] <= MOST_LEFT_OUT
    return on_grid(row[k])


def all_in_range(herd, signs, row):
    # In order, so that the animal is sure before its sightings are counted.
    for k, sign in enumerate(signs):
        if not in_range(herd, sign, row, k):
            return False
    return True


def answer(herd, number, row):
    if not all_in_range(herd, SIGNS[number], row):
        return [NOT_IN_RANGE]
    act = CALLS[number]
    return act(herd, row)


def answers(calls):
    """The answers to a list of calls, each with its length before it."""
    herd = [[] for animal in range(ANIMALS)]
    given = []
    start = 0
    while start < len(calls):
        number = calls[start]
        end = start + 1 + len(SIGNS[number])
        answered = answer(herd, number, calls[start + 1:end])
        given.append(len(answered))
        given.extend(answered)
        start = end
    return given
