"""Directions and sides, and the sides that bearings and ranges have."""

from seamarks.parts import lowest, upright


def turn(one, other):
    return one[0] * other[1] - one[1] * other[0]


def along(one, other):
    # Of a side and a direction: above nought where the direction leads to the edge and out, below where it leads in.
    return one[0] * other[0] + one[1] * other[1]


def plain(direction):
    return lowest(direction)


def plain_side(side):
    return lowest(side)


def beyond(side, spot):
    # Times the spot's w, which is above nought: so it stays whole and keeps its sign.
    return side[0] * spot[0] + side[1] * spot[1] - side[2] * spot[2]


def holds(side, spot):
    return beyond(side, spot) <= 0


def on_edge(side, spot):
    return beyond(side, spot) == 0


def crossing(one, other):
    w = turn(one, other)
    if w == 0:
        return None
    x = one[2] * other[1] - one[1] * other[2]
    y = one[0] * other[2] - one[2] * other[0]
    # Not by spot of seamarks.parts: in this file that name is a parameter's, by the interface.
    return upright((x, y, w))


def pushed(side, x, y):
    return (side[0], side[1], side[2] + side[0] * x + side[1] * y)


def bearing_sides(place, one, other):
    first = (-one[1], one[0], turn(one, place))
    second = (other[1], -other[0], turn(place, other))
    return [plain_side(first), plain_side(second)]


def range_side(left, right):
    return plain_side((left[1] - right[1], right[0] - left[0], turn(right, left)))
