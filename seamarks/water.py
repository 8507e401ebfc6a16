"""The water that sides leave: its corners, a place in it, the ways that lead on in it, and its area."""

from seamarks.parts import in_order, part, plus, spot
from seamarks.sides import along, crossing, holds, plain, turn


def in_water(sides, place):
    for side in sides:
        if not holds(side, place):
            return False
    return True


def foot(side):
    # The place of the edge nearest to (0, 0): to be had of every side, also where nothing crosses its edge.
    return spot(side[0] * side[2], side[1] * side[2], along(side, side))


def edge_end(sides, edge, hand):
    # Hand 1 walks the edge with its side to the left, -1 with its side to the right. Told is the number of the side
    # that is left first, or None where none is. Sides beside the edge are never left: of these nothing is said.
    found = None
    place = None
    for number in range(len(sides)):
        side = sides[number]
        if turn(edge, side) * hand > 0 and (place is None or not holds(side, place)):
            found = number
            place = crossing(edge, side)
    return found


def edge_ends(sides, edge):
    numbers = [edge_end(sides, edge, -1), edge_end(sides, edge, 1)]
    return [crossing(edge, sides[number]) for number in numbers if number is not None]


def spot_on_edge(sides, edge):
    # What the water has of an edge is a stretch: if any, its ends are of it, and where it has none, every place is.
    for place in edge_ends(sides, edge) + [foot(edge)]:
        if in_water(sides, place):
            return place
    return None


def sought(sides):
    # A spot of the water and None; or None and the number of the first side that leaves no place to those ahead.
    place = spot(0, 0, 1)
    for number in range(len(sides)):
        if not holds(sides[number], place):
            # The water ahead has no dents: from the old place to any that is left it leads over this side's edge.
            place = spot_on_edge(sides[:number], sides[number])
            if place is None:
                return (None, number)
    return (place, None)


def some_spot(sides):
    return sought(sides)[0]


def corners(sides):
    found = {}
    for edge in sides:
        for place in edge_ends(sides, edge):
            if in_water(sides, place):
                found[place] = True
    return in_order(list(found))


def way_to(start, end):
    # Times the w of both, which are above nought: so it stays whole and leads the same way.
    return (end[0] * start[2] - start[0] * end[2], end[1] * start[2] - start[1] * end[2])


def ring(sides):
    rising = corners(sides)

    def count_ahead(place):
        # No three corners are in one line, so seen from the first each of the others has a count of its own.
        sight = way_to(rising[0], place)
        return len([other for other in rising if turn(way_to(rising[0], other), sight) > 0])

    return rising[:1] + sorted(rising[1:], key=count_ahead)


def is_way(sides, direction):
    for side in sides:
        if along(side, direction) > 0:
            return False
    return True


def ways(sides):
    found = {}
    for side in sides:
        for direction in [(-side[1], side[0]), (side[1], -side[0])]:
            if is_way(sides, direction):
                found[plain(direction)] = True
    return sorted(list(found))


def has_no_way(sides):
    # Where there are sides and any way, some way goes along an edge; where there are none, each direction is a way.
    return len(sides) > 0 and ways(sides) == []


def closed(sides):
    return has_no_way(sides) and some_spot(sides) is not None


def triangle(first, one, other):
    twice = turn(way_to(first, one), way_to(first, other))
    return part(twice, 2 * first[2] ** 2 * one[2] * other[2])


def area(sides):
    if some_spot(sides) is None:
        return part(0, 1)
    if not has_no_way(sides):
        return None
    places = ring(sides)
    total = part(0, 1)
    for number in range(2, len(places)):
        total = plus(total, triangle(places[0], places[number - 1], places[number]))
    return total
