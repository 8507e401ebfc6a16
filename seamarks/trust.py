"""What must be disbelieved: the fewest groups that some place doubts."""

from seamarks.parts import spot
from seamarks.sides import crossing
from seamarks.water import foot, in_water


def doubted(groups, place):
    return [number for number in range(len(groups)) if not in_water(groups[number], place)]


def places_to_try(groups):
    # Where groups have water in common it has a corner, or a whole edge, or is everywhere: one of these is in it.
    sides = []
    for group in groups:
        sides.extend(group)
    places = [spot(0, 0, 1)]
    for number in range(len(sides)):
        places.append(foot(sides[number]))
        for other in sides[:number]:
            place = crossing(sides[number], other)
            if place is not None:
                places.append(place)
    return places


def least_doubts(groups):
    # From each choice, as a tuple, to a spot that doubts just it.
    shown = {}
    for place in places_to_try(groups):
        shown[tuple(doubted(groups, place))] = place
    least = min([len(choice) for choice in shown])
    told = {}
    for choice in sorted(list(shown)):
        if len(choice) == least:
            told[choice] = shown[choice]
    return told


def choices(groups):
    return [list(choice) for choice in least_doubts(groups)]


def trusted(groups):
    told = least_doubts(groups)
    choice = list(told)[0]
    return (told[choice], list(choice))
