"""Banks: whether the ship can have been on one, and what shows it."""

from seamarks.parts import part, spot
from seamarks.reach import clash, reach
from seamarks.sides import along, holds, plain_side, turn
from seamarks.water import some_spot


def stretch_way(start, end):
    return (end[0] - start[0], end[1] - start[1])


def all_left_of(corners, number):
    # The corners but the stretch's own two: from behind these on, once round.
    start = corners[number]
    way = stretch_way(start, corners[(number + 1) % len(corners)])
    for further in range(2, len(corners)):
        other = corners[(number + further) % len(corners)]
        if turn(way, stretch_way(start, other)) <= 0:
            return False
    return True


def is_bank(corners):
    if len(corners) < 3 or len(corners) > 8:
        return False
    return all([all_left_of(corners, number) for number in range(len(corners))])


def stretch_side(start, end):
    way = stretch_way(start, end)
    return plain_side((way[1], -way[0], turn(start, way)))


def bank_sides(corners):
    following = corners[1:] + corners[:1]
    return [stretch_side(corners[number], following[number]) for number in range(len(corners))]


def word_of_cannot(sides, shown):
    # The bank's share of the clash makes the contrary direction: so on the bank it is above what the water's shows.
    shares = [pair for pair in shown if pair[0] < len(sides)]
    east = sum([pair[1] * sides[pair[0]][0] for pair in shares])
    north = sum([pair[1] * sides[pair[0]][1] for pair in shares])
    return ("cannot", (east, north), [(pair[0], part(pair[1], 1)) for pair in shares])


def gone_beyond(edge, place, way):
    left = edge[2] * place[2] - edge[0] * place[0] - edge[1] * place[1]
    steps = max(0, left // (place[2] * along(edge, way)) + 1)
    return spot(place[0] + steps * way[0] * place[2], place[1] + steps * way[1] * place[2], place[2])


def beyond_or_weights(sides, edge):
    # A spot of the water beyond this side of the bank and None; or None and the weights that show there is none.
    told = reach(sides, (edge[0], edge[1]))
    if told[0] == "open":
        return (gone_beyond(edge, some_spot(sides), told[1]), None)
    if holds(edge, told[1]):
        return (None, told[2])
    return (told[1], None)


def bank_word(sides, corners):
    shown = clash(sides)
    if shown is not None:
        return ("none", shown)
    edges = bank_sides(corners)
    apart = clash(sides + edges)
    if apart is not None:
        return word_of_cannot(sides, apart)
    weights = []
    for edge in edges:
        told = beyond_or_weights(sides, edge)
        if told[0] is not None:
            return ("can", some_spot(sides + edges), told[0])
        weights.append(told[1])
    return ("must", weights)
