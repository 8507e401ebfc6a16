"""What can be asked of a book: the water at a moment, and what is told of it."""

from seamarks.banks import bank_word
from seamarks.deeds import check_moment
from seamarks.errors import NoBank
from seamarks.reach import clash, reach
from seamarks.sides import bearing_sides, pushed, range_side
from seamarks.trust import choices
from seamarks.water import area, corners, ways


def way_between(book, one, other):
    runs = book.runs()
    check_moment(one, runs)
    check_moment(other, runs)
    between = runs[min(one, other):max(one, other)]
    hand = 1 if one <= other else -1
    return (hand * sum([run[0] for run in between]), hand * sum([run[1] for run in between]))


def mark_places(book):
    places = {}
    for mark in book.marks():
        places[mark[0]] = (mark[1], mark[2])
    return places


def sides_of(note, places):
    # As they are at the note's own moment.
    if note[0] == "bearing":
        return bearing_sides(places[note[2]], note[3], note[4])
    return [range_side(places[note[2]], places[note[3]])]


def note_groups(book, moment):
    check_moment(moment, book.runs())
    places = mark_places(book)
    groups = []
    for pair in book.notes():
        note = pair[1]
        way = way_between(book, note[1], moment)
        groups.append([pushed(side, way[0], way[1]) for side in sides_of(note, places)])
    return groups


def note_sides(book, moment):
    sides = []
    for group in note_groups(book, moment):
        sides.extend(group)
    return sides


def book_corners(book, moment):
    return corners(note_sides(book, moment))


def book_area(book, moment):
    return area(note_sides(book, moment))


def book_ways(book, moment):
    return ways(note_sides(book, moment))


def book_reach(book, moment, direction):
    return reach(note_sides(book, moment), direction)


def note_numbers(book):
    return [pair[0] for pair in book.notes()]


def side_owners(book):
    # The note's number of each side, as note_sides tells them.
    owners = []
    numbers = note_numbers(book)
    groups = note_groups(book, 0)
    for at in range(len(groups)):
        owners.extend([numbers[at] for side in groups[at]])
    return owners


def book_clash(book):
    told = clash(note_sides(book, 0))
    if told is None:
        return None
    owners = side_owners(book)
    return sorted(set([owners[pair[0]] for pair in told]))


def book_choices(book):
    numbers = note_numbers(book)
    return [[numbers[at] for at in choice] for choice in choices(note_groups(book, 0))]


def bank_corners(book, name):
    for bank in book.banks():
        if bank[0] == name:
            return list(bank[1])
    raise NoBank(f"no bank is called {name!r}")


def book_bank(book, moment, name):
    sides = note_sides(book, moment)
    return bank_word(sides, bank_corners(book, name))
