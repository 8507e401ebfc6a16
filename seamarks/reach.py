"""How far the water reaches in a direction, and what clashes where there is no water."""

from seamarks.parts import lowest, part
from seamarks.sides import along, crossing, holds, plain, turn
from seamarks.water import edge_end, foot, in_water, is_way, sought, spot_on_edge, ways


def span(direction):
    # Of directions in one line these are to one another as their lengths, and they are whole.
    return abs(direction[0]) + abs(direction[1])


def weighed(numbers, weights):
    least = lowest(weights)
    return [(numbers[at], least[at]) for at in range(len(numbers))]


def clash_of_three(sides, last):
    edge = sides[last]
    numbers = sorted([edge_end(sides[:last], edge, -1), edge_end(sides[:last], edge, 1)])
    one = sides[numbers[0]]
    other = sides[numbers[1]]
    # Each side times the turn of the two others makes nought in all, and the three turns are of one sign: else what
    # the two ahead have in common would lie in the last one too, or they would clash by themselves.
    weights = [abs(turn(other, edge)), abs(turn(edge, one)), abs(turn(one, other))]
    return weighed(numbers + [last], weights)


def clash(sides):
    last = sought(sides)[1]
    if last is None:
        return None
    edge = sides[last]
    for number in range(last):
        side = sides[number]
        # Beside the edge and without a place of it, while the water ahead is beyond the edge: it is a contrary one.
        if turn(edge, side) == 0 and not holds(side, foot(edge)):
            return weighed([number, last], [span(edge), span(side)])
    return clash_of_three(sides, last)


def way_onward(sides, direction):
    # Where no way along an edge leads onward but some other does, all edges go across the direction.
    for way in ways(sides) + [plain(direction)]:
        if along(direction, way) > 0 and is_way(sides, way):
            return way
    return None


def far_by_one(sides, direction):
    for number in range(len(sides)):
        side = sides[number]
        if turn(side, direction) == 0 and along(side, direction) > 0:
            place = spot_on_edge(sides, side)
            if place is not None:
                return ("far", place, [(number, part(span(direction), span(side)))])
    return None


def weights_of_two(sides, numbers, direction):
    one = sides[numbers[0]]
    other = sides[numbers[1]]
    whole = turn(one, other)
    shares = [part(turn(direction, other), whole), part(turn(one, direction), whole)]
    return sorted([(numbers[0], shares[0]), (numbers[1], shares[1])])


def far_by_two(sides, direction):
    # At the farthest corner, take of its sides to the right of the direction the one nearest to it: whichever side
    # its edge leaves there is to the left of the direction, unless it leads the very same way.
    for number in range(len(sides)):
        one = sides[number]
        if turn(one, direction) > 0:
            # There is an end: an edge that goes on for ever this way would be a way onward.
            end = edge_end(sides, one, 1)
            place = crossing(one, sides[end])
            if turn(direction, sides[end]) > 0 and in_water(sides, place):
                return ("far", place, weights_of_two(sides, [number, end], direction))
    return None


def reach(sides, direction):
    shown = clash(sides)
    if shown is not None:
        return ("none", shown)
    way = way_onward(sides, direction)
    if way is not None:
        return ("open", way)
    # By one comes first: by two may miss what a side that leads the very same way shows.
    return far_by_one(sides, direction) or far_by_two(sides, direction)
