"""Two ranges, each told by its corners: what they share, how far they're apart."""

from homeranges.fraction import added, common_divisor, lesser, lowest
from homeranges.plane import along, holds, sides_of, square, turn_of


def parted(side, places):
    """Whether the line through a side has one of the two places on each hand."""
    one = turn_of(side[0], side[1], places[0])
    other = turn_of(side[0], side[1], places[1])
    return one * other < 0


def meeting(corners, others):
    """Whether some point of the plane lies in both ranges."""
    for place in corners:
        if holds(others, place):
            return True
    for place in others:
        if holds(corners, place):
            return True
    # No corner is in the other range, so sides can meet only by crossing.
    for side in sides_of(corners):
        for other in sides_of(others):
            if parted(side, other) and parted(other, side):
                return True
    return False


def way_square(side, place):
    """The square of the distance of a place and a side, ends and all."""
    a = side[0]
    b = side[1]
    foot = along(a, b, place)
    length = square(a, b)
    # An end is nearest where the foot of the plumb line falls beyond it.
    if foot <= 0:
        return (square(a, place), 1)
    if foot >= length:
        return (square(b, place), 1)
    return (turn_of(a, b, place) ** 2, length)


def way_squares(corners, others):
    """From each corner of the one to each side of the other."""
    squares = []
    for place in corners:
        squares.extend([way_square(side, place) for side in sides_of(others)])
    return squares


def gap_square(corners, others):
    """The square of the distance of two ranges, neither empty."""
    if meeting(corners, others):
        return (0, 1)
    # Apart, two ranges are nearest in a corner of at least one of them.
    squares = way_squares(corners, others) + way_squares(others, corners)
    least = squares[0]
    for candidate in squares:
        if lesser(candidate, least):
            least = candidate
    return lowest(least[0], least[1])


def point_turn(side, point):
    """The turn of a side and a point (x, y, w), times w.

    Where sides cross, x and y are fractions: a point (x, y, w), its w above
    0, stands for x divided by w and y divided by w.
    """
    a = side[0]
    b = side[1]
    to_x = point[0] - a[0] * point[2]
    to_y = point[1] - a[1] * point[2]
    return (b[0] - a[0]) * to_y - (b[1] - a[1]) * to_x


def crossing_point(one, one_turn, other, other_turn):
    """Where the way between two points crosses the line that has these turns to them."""
    near = abs(one_turn)
    far = abs(other_turn)
    x = near * other[0] + far * one[0]
    y = near * other[1] + far * one[1]
    w = near * other[2] + far * one[2]
    # Without this the numbers would double in length with each cut.
    divisor = common_divisor(common_divisor(abs(x), abs(y)), w)
    return (x // divisor, y // divisor, w // divisor)


def cut(points, side):
    """What of a convex shape isn't to the right of the line through a side."""
    kept = []
    for k in range(len(points)):
        last_turn = point_turn(side, points[k - 1])
        this_turn = point_turn(side, points[k])
        if last_turn * this_turn < 0:
            kept.append(crossing_point(points[k - 1], last_turn, points[k], this_turn))
        if this_turn >= 0:
            kept.append(points[k])
    return kept


def twice_point_area(points):
    total = (0, 1)
    for k in range(len(points)):
        one = points[k - 1]
        other = points[k]
        total = added(total, (one[0] * other[1] - one[1] * other[0], one[2] * other[2]))
    return total


def twice_common_area(corners, others):
    if len(corners) < 3 or len(others) < 3:
        return (0, 1)
    points = [(place[0], place[1], 1) for place in corners]
    for side in sides_of(others):
        points = cut(points, side)
    return twice_point_area(points)
