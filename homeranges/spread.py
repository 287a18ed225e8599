"""How the sightings of one list lie to each other: depths, layers, sets."""

from homeranges.plane import WITHIN, along, corners_of, square, standing, turn_of, twice_area


def ahead(place, first, other):
    """Whether the other lies as the first does from the place, or left of it."""
    turned = turn_of(place, first, other)
    if turned != 0:
        return turned > 0
    return along(place, first, other) > 0


def depth_of(sightings, place):
    # The range of the others misses the place just if a line through it has
    # them all on one hand and none on it. Seen from the place, one of them is
    # then the rightmost and all the others are ahead of it, so it's enough to
    # try each sighting as the rightmost and keep what is ahead of it.
    apart = [other for other in sightings if other != place]
    most = 0
    for first in apart:
        kept = [other for other in apart if ahead(place, first, other)]
        most = max(most, len(kept))
    return len(sightings) - most


def layers_of(sightings):
    found = [0] * len(sightings)
    left = list(range(len(sightings)))
    while len(left) > 0:
        # Each one still there lies a layer deeper than was known.
        for k in left:
            found[k] += 1
        corners = corners_of([sightings[k] for k in left])
        left = [k for k in left if standing(corners, sightings[k]) == WITHIN]
    return found


def sets_of(count, size):
    """The sets of so many of the numbers below count, in the order of lists."""
    sets = [[]]
    for step in range(size):
        longer = []
        for chosen in sets:
            start = chosen[-1] + 1 if step > 0 else 0
            longer.extend([chosen + [k] for k in range(start, count)])
        sets = longer
    return sets


def area_without(sightings, chosen):
    rest = [place for k, place in enumerate(sightings) if k not in chosen]
    return twice_area(corners_of(rest))


def least_without(sightings, size):
    """The least of twice the areas without so many, then the first such set."""
    sets = sets_of(len(sightings), size)
    areas = [area_without(sightings, chosen) for chosen in sets]
    smallest = min(areas)
    # The first one found is the first in the order of lists.
    return [smallest] + sets[areas.index(smallest)]


def widest_pair(sightings):
    """The greatest square of a distance, then the first pair that far apart."""
    pairs = sets_of(len(sightings), 2)
    squares = [square(sightings[pair[0]], sightings[pair[1]]) for pair in pairs]
    greatest = max(squares)
    return [greatest] + pairs[squares.index(greatest)]
