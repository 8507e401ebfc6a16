"""What several tests share: exact numbers to hold the program's answers against, and waters and books to ask of."""

import copy
import itertools
import math
import random
import unittest
from fractions import Fraction

from seamarks import asks
from seamarks.book import Book

MILLION_MILLIONS = 10 ** 12
GREAT = MILLION_MILLIONS - 1

# By name, so that a test says which one failed.
WATERS = {
    "no side": [],
    "one side": [(1, 2, 3)],
    "one side far off": [(-3, 0, -50)],
    "sides alike": [(1, 2, 3), (1, 2, 3), (1, 2, 3)],
    "one side times numbers": [(1, 2, 3), (2, 4, 6), (15, 30, 45)],
    "beside one another": [(1, 0, 3), (1, 0, -1), (2, 0, 9)],
    "beside one another aslant": [(4, 6, 5), (2, 3, -20), (6, 9, 1)],
    "contrary with a strip": [(1, 0, -3), (-1, 0, 7)],
    "contrary with a strip aslant": [(2, 4, -6), (-3, -6, 15)],
    "contrary with a line": [(3, 0, 9), (-1, 0, -3)],
    "contrary with a line aslant": [(2, -3, 1), (-4, 6, -2)],
    "contrary with nothing": [(1, 0, 1), (-1, 0, -3)],
    "contrary with nothing aslant": [(4, 6, 5), (-6, -9, -8)],
    "contrary with nothing among others": [(0, 1, 9), (2, 1, 1), (-4, -2, -3), (1, 1, 100), (0, -1, 9)],
    "open with one corner": [(1, 0, 0), (0, 1, 0)],
    "open with one corner aslant": [(2, 3, 4), (-5, 7, 1)],
    "open with two corners": [(1, 0, 3), (-1, 0, 3), (0, 1, 0)],
    "open with two corners aslant": [(-1, 0, 2), (1, 3, 5), (2, -3, 4), (-1, -50, 2000)],
    "open with one way": [(1, 2, 3), (-1, -2, 4), (3, -1, 2)],
    "a ray": [(1, 0, 5), (-1, 0, -5), (0, 1, 2)],
    "three sides with a triangle": [(-1, 0, 0), (0, -1, 0), (1, 1, 1)],
    "three sides with one place": [(-1, 0, 0), (0, -1, 0), (1, 1, 0)],
    "three sides with one place in parts": [(-3, 1, 0), (0, -6, -3), (2, 1, 1), (2, 2, 2)],
    "three sides with nothing": [(-1, 0, 0), (0, -1, 0), (1, 1, -1)],
    "three sides with nothing by a little": [(-GREAT, 1, 0), (GREAT, 1, 0), (0, -GREAT, -1)],
    "one place by four sides": [(1, 0, 2), (-1, 0, -2), (0, 1, 5), (0, -1, -5)],
    "a stretch": [(1, 0, 2), (-1, 0, -2), (0, 1, 5), (0, -1, 5)],
    "a stretch aslant": [(1, 1, 1), (-1, -1, -1), (-2, 0, -1), (3, 0, 4)],
    "a square": [(1, 0, 4), (-1, 0, 0), (0, 1, 4), (0, -1, 0)],
    "a square far off": [(1, 0, -40), (-1, 0, 44), (0, 1, 90), (0, -1, -86)],
    "a square in thirds": [(3, 0, 4), (-3, 0, -1), (0, 3, 2), (0, -3, 7)],
    "a square with idle sides": [(1, 1, 99), (1, 0, 4), (0, 1, 9), (-1, 0, 0), (0, 1, 4), (2, 0, 9), (0, -1, 0)],
    "a square touched at corners": [(1, 0, 4), (-1, 0, 0), (0, 1, 4), (0, -1, 0), (1, 1, 8), (1, 2, 12), (-1, 1, 4)],
}

# Three notes, each of another moment; the water is closed, and the ship may have been on the bank.
FAIRWAY = (
    ("mark", "ann", 10, 0),
    ("mark", "bob", 0, 10),
    ("mark", "cid", -10, -5),
    ("bank", "sand", ((0, 0), (4, 0), (0, 4))),
    ("sail", 3, -1),
    ("sail", -2, 5),
    ("bearing", 0, "ann", (1, -1), (1, 1)),
    ("range", 1, "bob", "ann"),
    ("bearing", 2, "cid", (-1, 0), (0, -1)),
)


def place(triple):
    return (Fraction(triple[0], triple[2]), Fraction(triple[1], triple[2]))


def worth(direction, at):
    return direction[0] * at[0] + direction[1] * at[1]


def in_all(sides, triple):
    at = place(triple)
    return all(worth(side, at) <= side[2] for side in sides)


def extent(sides, axis):
    """Of the water from least to most along an axis (0 to the east, 1 to the north), None where it goes on for ever;
    None in all where there is no place. By taking the other axis out of the sides, two by two."""
    rows = [(side[axis], side[1 - axis], side[2]) for side in sides]
    alone = [(a, c) for a, b, c in rows if b == 0]
    for one, other in itertools.product(rows, rows):
        if one[1] > 0 > other[1]:
            alone.append((one[0] * -other[1] + other[0] * one[1], one[2] * -other[1] + other[2] * one[1]))
    if any(a == 0 and c < 0 for a, c in alone):
        return None
    least = max((Fraction(c, a) for a, c in alone if a < 0), default=None)
    most = min((Fraction(c, a) for a, c in alone if a > 0), default=None)
    if least is not None and most is not None and most < least:
        return None
    return (least, most)


def has_place(sides):
    return extent(sides, 0) is not None


def is_closed(sides):
    spans = [extent(sides, axis) for axis in (0, 1)]
    return None not in spans and all(None not in span for span in spans)


def small_waters(count, seed, most=7):
    chance = random.Random(seed)
    for number in range(count):
        sides = []
        while len(sides) < number % (most + 1):
            side = (chance.randint(-3, 3), chance.randint(-3, 3), chance.randint(-6, 8))
            if side[:2] != (0, 0):
                sides.append(side)
        yield sides


def great_waters(count, seed):
    chance = random.Random(seed)
    for number in range(count):
        yield [
            (chance.randint(-GREAT, GREAT), chance.randint(1, GREAT) * chance.choice((1, -1)),
             chance.randint(-GREAT // 9, GREAT))
            for side in range(2 + number % 6)
        ]


def sides_through(triple, directions):
    """Sides whose edges all go through one place."""
    x, y, w = triple
    return [(a * w, b * w, a * x + b * y) for a, b in directions]


def round_water(count, size=1000):
    """A ring of as many corners as sides, in a mixed order: each side touches a circle about (0, 0), or nearly so."""
    sides = []
    for number in range(count):
        angle = 2 * math.pi * (number + 0.1) / count
        a, b = round(size * math.cos(angle)), round(size * math.sin(angle))
        sides.append((a, b, 7 * math.isqrt(a * a + b * b)))
    random.Random(count).shuffle(sides)
    return sides


def by_method(book, deed):
    return getattr(book, {"range": "range_note"}.get(deed[0], deed[0]))(*deed[1:])


def book_of(deeds):
    book = Book()
    for deed in deeds:
        book.deed(deed)
    return book


def stands(book):
    """All that can be asked of the book itself, but for what can be undone and done again."""
    return (book.marks(), book.banks(), book.runs(), book.notes(), book.coming())


def kept(book):
    return (stands(book), book.deeds(), book.undone())


def answers(book, moment):
    """What is asked of the water at one moment, each by its name."""
    told = {
        "sides": asks.note_sides(book, moment),
        "groups": asks.note_groups(book, moment),
        "corners": asks.book_corners(book, moment),
        "area": asks.book_area(book, moment),
        "ways": asks.book_ways(book, moment),
        "clash": asks.book_clash(book),
        "choices": asks.book_choices(book),
    }
    for direction in ((1, 0), (-2, 3), (0, -1)):
        told["reach", direction] = asks.book_reach(book, moment, direction)
    for name, corners in book.banks():
        told["bank", name] = asks.book_bank(book, moment, name)
    return told


def all_answers(book):
    return [answers(book, moment) for moment in range(len(book.runs()) + 1)]


def between(one, sight, other):
    """Whether the direction is one of the two or between them, the second being to the left of the first."""
    return all(a * d - b * c >= 0 for (a, b), (c, d) in ((one, sight), (sight, other)))


def sighted(chance, ship, mark, wrong):
    sight = (mark[0] - ship[0], mark[1] - ship[1])
    while True:
        one, other = [(chance.randint(-9, 9), chance.randint(-9, 9)) for _ in range(2)]
        if one[0] * other[1] > one[1] * other[0] and (wrong or between(one, sight, other)):
            return (one, other)


def voyage(chance, wrong=0.1, most=9):
    """The deeds of a book whose notes are true of one ship, but for some: marks, runs and banks, then the notes."""
    places = random.Random(chance.random()).sample(list(itertools.product(range(-20, 21), repeat=2)), 5)
    marks = dict(zip(("ann", "bob", "cid", "dan", "eve"), places))
    deeds = [("mark", name, x, y) for name, (x, y) in marks.items()]
    deeds.append(("bank", "sand", ((-3, -4), (5, -2), (6, 7), (-1, 4))))
    deeds.append(("bank", "rock", ((30, 30), (31, 30), (30, 31))))
    deeds.append(("bank", "shelf", ((-60, -40), (60, -40), (50, 40), (-50, 40))))
    ships = [(chance.randint(-9, 9), chance.randint(-9, 9))]
    for _ in range(chance.randint(0, 4)):
        run = (chance.randint(-6, 6), chance.randint(-6, 6))
        deeds.append(("sail",) + run)
        ships.append((ships[-1][0] + run[0], ships[-1][1] + run[1]))
    for _ in range(chance.randint(0, most)):
        moment = chance.randrange(len(ships))
        x, y = ships[moment]
        left, right = chance.sample(sorted(marks), 2)
        if chance.random() < 0.6:
            deeds.append(("bearing", moment, left) + sighted(chance, (x, y), marks[left], chance.random() < wrong))
        else:
            (p, q), (r, s) = marks[left], marks[right]
            if (r - x) * (q - y) < (s - y) * (p - x) and chance.random() >= wrong:
                left, right = right, left
            deeds.append(("range", moment, left, right))
    return deeds


def all_lists(value):
    found = [value] if isinstance(value, list) else []
    if isinstance(value, (list, tuple)):
        for inner in value:
            found.extend(all_lists(inner))
    return found


def wreck(value):
    """Empties and lengthens each list."""
    for told in all_lists(value):
        told.clear()
        told.extend([(7, 7, 7), [7]])


class ExactCase(unittest.TestCase):
    def assert_whole(self, told, length):
        self.assertIs(type(told), tuple)
        self.assertEqual([type(number) for number in told], [int] * length)

    def assert_lowest(self, told, length):
        self.assert_whole(told, length)
        self.assertGreaterEqual(told[-1], 1)
        self.assertEqual(math.gcd(*told), 1)

    def assert_spot_in(self, sides, told):
        self.assert_lowest(told, 3)
        self.assertTrue(in_all(sides, told), told)

    def assert_new_lists(self, function, *handed):
        """Nothing handed in is changed or kept, and each list told is a new one."""
        before = copy.deepcopy(handed)
        told = function(*handed)
        self.assertEqual(handed, before)
        first = copy.deepcopy(told)
        lists = all_lists(told)
        self.assertEqual(len(lists), len({id(one) for one in lists}))
        wreck(told)
        self.assertEqual(handed, before)
        second = function(*handed)
        self.assertEqual(second, first)
        wreck(handed)
        self.assertEqual(second, first)
        self.assertEqual(function(*before), first)

    def assert_numbers_rise(self, pairs, sides):
        self.assertIs(type(pairs), list)
        for pair in pairs:
            self.assertIs(type(pair), tuple)
            self.assertEqual(len(pair), 2)
            self.assertIs(type(pair[0]), int)
        numbers = [pair[0] for pair in pairs]
        self.assertEqual(numbers, sorted(set(numbers)))
        self.assertTrue(all(0 <= number < len(sides) for number in numbers), numbers)

    def assert_clash(self, sides, told):
        """Point 11."""
        self.assert_numbers_rise(told, sides)
        self.assertIn(len(told), (2, 3))
        for number, weight in told:
            self.assertIs(type(weight), int)
            self.assertGreaterEqual(weight, 1)
        sums = [sum(weight * sides[number][at] for number, weight in told) for at in range(3)]
        self.assertEqual(sums[:2], [0, 0])
        self.assertLess(sums[2], 0)

    def shown_by(self, sides, weights, direction):
        """Point 10: what the weights, at most two, show for the direction."""
        self.assert_numbers_rise(weights, sides)
        self.assertLessEqual(len(weights), 2)
        for number, weight in weights:
            self.assert_lowest(weight, 2)
            self.assertGreater(weight[0], 0)
        sums = [sum(Fraction(*weight) * sides[number][at] for number, weight in weights) for at in range(3)]
        self.assertEqual(tuple(sums[:2]), direction)
        return sums[2]
