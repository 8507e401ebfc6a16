"""The looker, who trusts nobody: whether a paper shows what it says."""

from seamarks.banks import bank_sides
from seamarks.parts import below, part, plus, times
from seamarks.sides import along
from seamarks.trust import doubted
from seamarks.water import in_water, is_way, some_spot


def are_weights(sides, weights):
    least = 0
    for pair in weights:
        if pair[0] < least or pair[0] >= len(sides) or min(pair[1]) < 1:
            return False
        least = pair[0] + 1
    return True


def sum_at(sides, weights, at):
    total = part(0, 1)
    for pair in weights:
        total = plus(total, times(pair[1], part(sides[pair[0]][at], 1)))
    return total


def makes(sides, weights, direction):
    return [sum_at(sides, weights, at) for at in range(2)] == [part(number, 1) for number in direction]


def shown(sides, weights, direction):
    # The part that the weights show for the direction, or None. Long lists are turned away ahead of any sum.
    if direction == (0, 0) or len(weights) > 2 or not are_weights(sides, weights):
        return None
    if not makes(sides, weights, direction):
        return None
    return sum_at(sides, weights, 2)


def good_clash(sides, paper):
    if len(paper) < 2 or len(paper) > 3:
        return False
    weights = [(pair[0], (pair[1], 1)) for pair in paper]
    if not are_weights(sides, weights) or not makes(sides, weights, (0, 0)):
        return False
    return below(sum_at(sides, weights, 2), part(0, 1))


def good_place(sides, place):
    return place[2] >= 1 and in_water(sides, place)


def good_open(sides, direction, way):
    return along(direction, way) > 0 and is_way(sides, way) and some_spot(sides) is not None


def good_far(sides, direction, place, weights):
    if not good_place(sides, place):
        return False
    return shown(sides, weights, direction) == part(along(direction, place), place[2])


def good_reach(sides, direction, paper):
    # Of (0, 0) nothing is shown, not even by a clash: it has no reach.
    if direction == (0, 0):
        return False
    if paper[0] == "none":
        return good_clash(sides, paper[1])
    if paper[0] == "open":
        return good_open(sides, direction, paper[1])
    return good_far(sides, direction, paper[1], paper[2])


def good_cannot(sides, corners, direction, weights):
    most = shown(sides, weights, direction)
    if most is None:
        return False
    return all([below(most, part(along(direction, corner), 1)) for corner in corners])


def shows_within(sides, weights, edge):
    most = shown(sides, weights, (edge[0], edge[1]))
    return most is not None and not below(part(edge[2], 1), most)


def good_must(sides, corners, papers):
    edges = bank_sides(corners)
    if len(papers) != len(edges):
        return False
    return all([shows_within(sides, papers[number], edges[number]) for number in range(len(edges))])


def good_can(sides, corners, on_bank, off_bank):
    if not good_place(sides, on_bank) or not good_place(sides, off_bank):
        return False
    edges = bank_sides(corners)
    return in_water(edges, on_bank) and not in_water(edges, off_bank)


def good_bank(sides, corners, paper):
    if paper[0] == "none":
        return good_clash(sides, paper[1])
    if paper[0] == "cannot":
        return good_cannot(sides, corners, paper[1], paper[2])
    if paper[0] == "must":
        return good_must(sides, corners, paper[1])
    return good_can(sides, corners, paper[1], paper[2])


def good_trust(groups, paper):
    return paper[0][2] >= 1 and doubted(groups, paper[0]) == paper[1]
