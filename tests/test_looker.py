"""Points 1 and 10 to 16: the looker."""

import random
import unittest
from fractions import Fraction

from exact import ExactCase, GREAT, WATERS, great_waters, has_place, in_all, small_waters, worth
from seamarks.banks import bank_sides, bank_word
from seamarks.looker import good_bank, good_clash, good_reach, good_trust
from seamarks.reach import clash, reach
from seamarks.trust import trusted

SQUARE = [(1, 0, 4), (-1, 0, 0), (0, 1, 4), (0, -1, 0)]
# 5 at least and 3 at most to the east, with idle sides between.
APART = [(0, 1, 9), (2, 0, 6), (0, -1, 9), (-1, 0, -5)]
THREE = [(-1, 0, 0), (0, -1, 0), (2, 3, -1)]
DIRECTIONS = ((1, 0), (0, -1), (2, 3), (-3, 1), (-5, -5), (GREAT, -7))
BANKS = (
    [(0, 0), (4, 0), (0, 4)],
    [(-9, -9), (9, -9), (9, 9), (-9, 9)],
    [(50, 50), (52, 50), (53, 52), (51, 53)],
    [(-1, -1), (2, -1), (2, 1)],
)


def right_weights(sides, weights):
    numbers = [number for number, weight in weights]
    return (numbers == sorted(set(numbers)) and all(0 <= number < len(sides) for number in numbers)
            and all(top >= 1 and bottom >= 1 for number, (top, bottom) in weights))


def sums(sides, weights):
    return [sum(Fraction(*weight) * sides[number][at] for number, weight in weights) for at in range(3)]


def expected_clash(sides, paper):
    weights = [(number, (weight, 1)) for number, weight in paper]
    if len(paper) not in (2, 3) or not right_weights(sides, weights):
        return False
    east, north, most = sums(sides, weights)
    return (east, north) == (0, 0) and most < 0


def expected_part(sides, weights, direction):
    if direction == (0, 0) or len(weights) > 2 or not right_weights(sides, weights):
        return None
    east, north, most = sums(sides, weights)
    return most if (east, north) == direction else None


def is_place(sides, triple):
    return triple[2] >= 1 and in_all(sides, triple)


def expected_reach(sides, direction, paper):
    if paper[0] == "none":
        return expected_clash(sides, paper[1])
    if paper[0] == "open":
        onward = worth(direction, paper[1]) > 0
        return onward and all(worth(side, paper[1]) <= 0 for side in sides) and has_place(sides)
    x, y, w = paper[1]
    if not is_place(sides, paper[1]):
        return False
    return expected_part(sides, paper[2], direction) == Fraction(direction[0] * x + direction[1] * y, w)


def expected_bank(sides, corners, paper):
    if paper[0] == "none":
        return expected_clash(sides, paper[1])
    if paper[0] == "cannot":
        most = expected_part(sides, paper[2], paper[1])
        return most is not None and all(most < worth(paper[1], corner) for corner in corners)
    edges = bank_sides(corners)
    if paper[0] == "must":
        parts = [expected_part(sides, weights, edge[:2]) for weights, edge in zip(paper[1], edges)]
        return len(paper[1]) == len(edges) and all(
            most is not None and most <= edge[2] for most, edge in zip(parts, edges))
    if not is_place(sides, paper[1]) or not is_place(sides, paper[2]):
        return False
    return in_all(edges, paper[1]) and not in_all(edges, paper[2])


def expected_trust(groups, paper):
    if paper[0][2] < 1:
        return False
    return [number for number, group in enumerate(groups) if not in_all(group, paper[0])] == paper[1]


def paths_in(value, path=()):
    if isinstance(value, (int, list)):
        yield path
    if isinstance(value, (tuple, list)):
        for number, inner in enumerate(value):
            yield from paths_in(inner, path + (number,))


def other_list(value, chance):
    told = list(value)
    deed = chance.randrange(4)
    if deed == 0 and told:
        told.pop(chance.randrange(len(told)))
    elif deed == 1 and told:
        told.insert(chance.randrange(len(told) + 1), chance.choice(told))
    elif deed == 2:
        chance.shuffle(told)
    else:
        told.reverse()
    return told


def other_number(value, chance):
    return chance.choice((value + 1, value - 1, -value, 0, 2 * value, value + 10 ** 30))


def spoilt(value, path, chance):
    """The same paper but for one thing: a number, or a list's length or order."""
    if path:
        told = [spoilt(inner, path[1:], chance) if at == path[0] else inner for at, inner in enumerate(value)]
        return told if isinstance(value, list) else tuple(told)
    return other_list(value, chance) if isinstance(value, list) else other_number(value, chance)


def spoils(value, chance, count):
    paths = list(paths_in(value))
    for _ in range(count):
        told = spoilt(value, chance.choice(paths), chance)
        yield told
        yield spoilt(told, chance.choice(list(paths_in(told))), chance)


class LookerCase(ExactCase):
    def assert_good(self, function, *handed):
        self.assertIs(function(*handed), True, handed)

    def assert_bad(self, function, *handed):
        self.assertIs(function(*handed), False, handed)

    def waters(self, seed):
        return list(WATERS.values()) + list(small_waters(300, seed)) + list(great_waters(30, seed))


class GoodClashTest(LookerCase):
    def test_what_clash_tells(self):
        found = 0
        for sides in self.waters(31):
            told = clash(sides)
            if told is not None:
                found += 1
                self.assert_good(good_clash, sides, told)
                self.assert_good(good_clash, sides, [(number, 5 * weight) for number, weight in told])
        self.assertGreater(found, 50)

    def test_two_and_three(self):
        self.assert_good(good_clash, APART, [(1, 1), (3, 2)])
        self.assert_good(good_clash, APART, [(1, 10 ** 40), (3, 2 * 10 ** 40)])
        self.assert_good(good_clash, THREE, [(0, 2), (1, 3), (2, 1)])

    def test_numbers(self):
        self.assert_bad(good_clash, APART, [(3, 2), (1, 1)])
        self.assert_bad(good_clash, APART, [(1, 1), (1, 1), (3, 4)])
        self.assert_bad(good_clash, APART, [(1, 2), (3, 2), (3, 2)])
        self.assert_bad(good_clash, APART, [(1, 1), (4, 2)])
        self.assert_bad(good_clash, APART, [(1, 1), (10 ** 30, 2)])
        # Python's own lists answer to numbers below nought.
        self.assert_bad(good_clash, APART, [(-3, 1), (3, 2)])
        self.assert_bad(good_clash, APART, [(-3, 1), (-1, 2)])
        self.assert_bad(good_clash, THREE, [(1, 3), (0, 2), (2, 1)])
        self.assert_bad(good_clash, THREE, [(0, 2), (2, 1), (1, 3)])
        self.assert_bad(good_clash, THREE, [(0, 2), (1, 3), (3, 1)])
        self.assert_bad(good_clash, [], [(0, 1), (1, 1)])

    def test_weights(self):
        self.assert_bad(good_clash, APART, [(1, -1), (3, -2)])
        self.assert_bad(good_clash, APART, [(1, 0), (3, 0)])
        self.assert_bad(good_clash, APART, [(0, 0), (1, 1), (3, 2)])
        self.assert_bad(good_clash, [(1, 0, 5), (1, 0, 6)], [(0, 1), (1, -1)])
        self.assert_bad(good_clash, [(1, 0, 6), (1, 0, 5)], [(0, -1), (1, 1)])
        self.assert_bad(good_clash, THREE, [(0, 2), (1, 3), (2, 0)])
        self.assert_bad(good_clash, THREE, [(0, -2), (1, -3), (2, -1)])

    def test_sums(self):
        self.assert_bad(good_clash, APART, [(1, 1), (3, 1)])
        self.assert_bad(good_clash, APART, [(1, 1), (3, 3)])
        self.assert_bad(good_clash, APART, [(0, 1), (1, 1), (3, 2)])
        self.assert_bad(good_clash, THREE, [(0, 2), (1, 2), (2, 1)])
        self.assert_bad(good_clash, THREE, [(0, 1), (1, 3), (2, 1)])
        # At nought there is still a place, above it there are more.
        self.assert_bad(good_clash, [(1, 0, 3), (-1, 0, -3)], [(0, 1), (1, 1)])
        self.assert_bad(good_clash, [(1, 0, 4), (-1, 0, -3)], [(0, 1), (1, 1)])
        self.assert_good(good_clash, [(1, 0, 2), (-1, 0, -3)], [(0, 1), (1, 1)])
        self.assert_bad(good_clash, THREE[:2] + [(2, 3, 0)], [(0, 2), (1, 3), (2, 1)])

    def test_lengths(self):
        self.assert_bad(good_clash, APART, [])
        self.assert_bad(good_clash, APART, [(1, 1)])
        four = [(1, 0, 0), (-1, 0, -1), (0, 1, 0), (0, -1, 0)]
        self.assert_bad(good_clash, four, [(number, 1) for number in range(4)])
        self.assert_good(good_clash, four, [(0, 1), (1, 1)])
        self.assert_bad(good_clash, four, [(number, 1) for number in range(100000)])

    def test_spoilt(self):
        chance = random.Random(32)
        found = {True: 0, False: 0}
        for sides in self.waters(33):
            told = clash(sides)
            for paper in spoils(told, chance, 20) if told else ():
                expected = expected_clash(sides, paper)
                found[expected] += 1
                self.assertIs(good_clash(sides, paper), expected, (sides, paper))
        self.assertGreater(min(found.values()), 100)


class GoodReachTest(LookerCase):
    def test_what_reach_tells(self):
        found = {"none": 0, "open": 0, "far": 0}
        for sides in self.waters(34):
            for direction in DIRECTIONS:
                told = reach(sides, direction)
                found[told[0]] += 1
                self.assert_good(good_reach, sides, direction, told)
        self.assertGreater(min(found.values()), 100)

    def test_none(self):
        self.assert_good(good_reach, APART, (1, 5), ("none", [(1, 1), (3, 2)]))
        self.assert_bad(good_reach, APART, (1, 5), ("none", [(1, 1), (3, 1)]))
        self.assert_bad(good_reach, APART, (1, 5), ("none", []))
        self.assert_bad(good_reach, SQUARE, (1, 5), ("none", [(0, 1), (1, 1)]))

    def test_open(self):
        quarter = [(-1, 0, 0), (0, -1, 0)]
        for way in ((1, 0), (1, 1), (6, 4), (1, 10 ** 30), (10 ** 30, 0)):
            self.assert_good(good_reach, quarter, (2, 1), ("open", way))
        for way in ((0, 0), (-1, 0), (1, -1), (-1, 1), (-1, -1), (-1, 10 ** 30)):
            self.assert_bad(good_reach, quarter, (2, 1), ("open", way))
        # A way, but not onward.
        self.assert_bad(good_reach, quarter, (2, -1), ("open", (1, 2)))
        self.assert_bad(good_reach, quarter, (2, -1), ("open", (1, 3)))
        self.assert_good(good_reach, quarter, (2, -1), ("open", (2, 3)))
        self.assert_good(good_reach, [], (0, -3), ("open", (7, -1)))
        self.assert_bad(good_reach, [], (0, -3), ("open", (7, 0)))
        self.assert_bad(good_reach, [], (0, -3), ("open", (0, 0)))

    def test_open_where_there_is_no_place(self):
        self.assert_bad(good_reach, [(1, 0, 0), (-1, 0, -1)], (0, 1), ("open", (0, 1)))
        self.assert_good(good_reach, [(1, 0, 1), (-1, 0, -1)], (0, 1), ("open", (0, 1)))
        self.assert_bad(good_reach, [(1, 0, 0), (-1, 0, -1), (0, -1, 0)], (0, 1), ("open", (0, 2)))

    def test_far(self):
        weights = [(0, (2, 1)), (2, (3, 1))]
        self.assert_good(good_reach, SQUARE, (2, 3), ("far", (4, 4, 1), weights))
        self.assert_good(good_reach, SQUARE, (1, 0), ("far", (4, 3, 1), [(0, (1, 1))]))
        # Multiplied.
        self.assert_good(good_reach, SQUARE, (2, 3), ("far", (28, 28, 7), weights))
        self.assert_good(good_reach, SQUARE, (2, 3), ("far", (4, 4, 1), [(0, (10, 5)), (2, (9, 3))]))
        self.assert_good(good_reach, SQUARE, (1, 0), ("far", (8, 7, 2), [(0, (10 ** 40, 10 ** 40))]))

    def test_far_with_a_spot_that_is_none(self):
        weights = [(0, (2, 1)), (2, (3, 1))]
        for triple in ((4, 4, 0), (-4, -4, -1), (0, 0, 0), (4, 4, -1), (-28, -28, -7)):
            self.assert_bad(good_reach, SQUARE, (2, 3), ("far", triple, weights))
        self.assert_bad(good_reach, [(1, 0, 0)], (1, 0), ("far", (0, 0, 0), [(0, (1, 1))]))
        self.assert_bad(good_reach, [(1, 0, 0)], (1, 0), ("far", (0, 0, -1), [(0, (1, 1))]))
        self.assert_good(good_reach, [(1, 0, 0)], (1, 0), ("far", (0, 0, 1), [(0, (1, 1))]))

    def test_far_with_a_spot_elsewhere(self):
        weights = [(0, (2, 1)), (2, (3, 1))]
        # Not in the water, though the part is the same.
        self.assert_bad(good_reach, SQUARE, (2, 3), ("far", (7, 2, 1), weights))
        self.assert_bad(good_reach, SQUARE, (1, 0), ("far", (4, 5, 1), [(0, (1, 1))]))
        # In the water, with another part.
        self.assert_bad(good_reach, SQUARE, (2, 3), ("far", (4, 3, 1), weights))
        self.assert_bad(good_reach, SQUARE, (2, 3), ("far", (7, 8, 2), weights))
        self.assert_bad(good_reach, SQUARE, (1, 0), ("far", (0, 0, 1), [(0, (1, 1))]))

    def test_far_with_other_weights(self):
        spot = (4, 4, 1)
        # A side beyond the nearest shows more than there is at the spot; one through the spot shows just that.
        loose = SQUARE + [(1, 0, 9), (1, 1, 8)]
        self.assert_bad(good_reach, loose, (2, 3), ("far", spot, [(2, (3, 1)), (4, (2, 1))]))
        self.assert_good(good_reach, loose, (2, 3), ("far", spot, [(2, (1, 1)), (5, (2, 1))]))
        self.assert_bad(good_reach, loose, (2, 3), ("far", spot, [(0, (1, 1)), (2, (2, 1)), (5, (1, 1))]))
        for weights in (
            [], [(0, (2, 1))], [(2, (3, 1))], [(2, (3, 1)), (0, (2, 1))], [(0, (2, 1)), (0, (2, 1))],
            [(0, (3, 1)), (2, (2, 1))], [(0, (2, 1)), (2, (3, 2))], [(0, (2, 1)), (4, (3, 1))],
            [(-4, (2, 1)), (-2, (3, 1))], [(-4, (2, 1)), (2, (3, 1))], [(0, (2, 1)), (10 ** 20, (3, 1))],
            [(0, (-2, -1)), (2, (-3, -1))], [(0, (2, 1)), (2, (-3, -1))], [(0, (-2, -1)), (2, (3, 1))],
            [(0, (2, 0)), (2, (3, 0))], [(0, (2, 1)), (2, (3, 0))], [(0, (0, 1)), (2, (3, 1))],
            [(0, (1, 1)), (0, (1, 1)), (2, (3, 1))], [(0, (2, 1)), (1, (0, 1)), (2, (3, 1))],
        ):
            self.assert_bad(good_reach, SQUARE, (2, 3), ("far", spot, weights))

    def test_weights_of_nought_and_below(self):
        self.assert_bad(good_reach, SQUARE, (1, 0), ("far", (4, 0, 1), [(0, (1, 1)), (2, (0, 1))]))
        self.assert_bad(good_reach, SQUARE, (1, 0), ("far", (4, 0, 1), [(0, (1, 1)), (2, (0, 5))]))
        # -1 times (-1, 0, 0) makes (1, 0), and 0 is what it is at (0, 0).
        self.assert_bad(good_reach, SQUARE, (1, 0), ("far", (0, 0, 1), [(1, (-1, 1))]))
        self.assert_bad(good_reach, SQUARE, (1, 0), ("far", (0, 0, 1), [(1, (1, -1))]))

    def test_long_lists(self):
        many = [(0, (1, 2)), (0, (1, 2))] + [(number, (1, 1)) for number in range(100000)]
        self.assert_bad(good_reach, SQUARE, (1, 0), ("far", (4, 0, 1), many))

    def test_the_direction_nought(self):
        self.assert_bad(good_reach, SQUARE, (0, 0), ("far", (4, 4, 1), []))
        self.assert_bad(good_reach, SQUARE, (0, 0), ("far", (4, 4, 1), [(0, (1, 1)), (1, (1, 1))]))
        self.assert_bad(good_reach, [(1, 0, 0), (-1, 0, 0)], (0, 0), ("far", (0, 4, 1), [(0, (1, 1)), (1, (1, 1))]))
        self.assert_bad(good_reach, [], (0, 0), ("open", (1, 0)))
        self.assert_bad(good_reach, [], (0, 0), ("open", (0, 0)))
        self.assert_bad(good_reach, APART, (0, 0), ("none", [(1, 1), (3, 2)]))

    def test_spoilt(self):
        chance = random.Random(35)
        found = {}
        for sides in self.waters(36):
            for direction in DIRECTIONS[2:5]:
                told = reach(sides, direction)
                for paper in spoils(told, chance, 12):
                    expected = expected_reach(sides, direction, paper)
                    found[told[0], expected] = found.get((told[0], expected), 0) + 1
                    self.assertIs(good_reach(sides, direction, paper), expected, (sides, direction, paper))
        self.assertEqual(len(found), 6)
        self.assertGreater(min(found.values()), 100)


class GoodBankTest(LookerCase):
    bank = BANKS[0]

    def test_what_bank_word_tells(self):
        found = {"none": 0, "cannot": 0, "must": 0, "can": 0}
        for sides in self.waters(37):
            for corners in BANKS:
                told = bank_word(sides, corners)
                found[told[0]] += 1
                self.assert_good(good_bank, sides, corners, told)
        self.assertGreater(min(found.values()), 50)

    def test_none(self):
        self.assert_good(good_bank, APART, self.bank, ("none", [(1, 1), (3, 2)]))
        self.assert_bad(good_bank, APART, self.bank, ("none", [(1, 1), (3, 1)]))
        self.assert_bad(good_bank, APART, self.bank, ("none", [(3, 2), (1, 1)]))
        self.assert_bad(good_bank, SQUARE, self.bank, ("none", [(0, 1), (1, 1)]))

    def test_cannot(self):
        # The least that the bank has of (-1, -1) is -4, at two of its corners.
        sides = [(-1, 0, -3), (0, -1, -2)]
        self.assert_good(good_bank, sides, self.bank, ("cannot", (-1, -1), [(0, (1, 1)), (1, (1, 1))]))
        self.assert_good(good_bank, sides, self.bank, ("cannot", (-3, -3), [(0, (9, 3)), (1, (3, 1))]))
        self.assert_good(good_bank, [(-1, 0, -5)], self.bank, ("cannot", (-2, 0), [(0, (2, 1))]))
        # Just as much as at one corner is too much.
        touching = [(-1, 0, -2), (0, -1, -2)]
        self.assert_bad(good_bank, touching, self.bank, ("cannot", (-1, -1), [(0, (1, 1)), (1, (1, 1))]))
        self.assert_bad(good_bank, [(-1, 0, -4)], self.bank, ("cannot", (-1, 0), [(0, (1, 1))]))
        # Less than at two of the corners alone.
        self.assert_bad(good_bank, [(-1, 0, -1)], self.bank, ("cannot", (-1, 0), [(0, (1, 1))]))
        self.assert_bad(good_bank, [(-1, -2, -5)], self.bank, ("cannot", (-1, -2), [(0, (1, 1))]))

    def test_cannot_with_other_weights(self):
        sides = [(-1, 0, -3), (0, -1, -2), (1, 0, 9), (-1, -1, -9)]
        for weights in (
            [], [(0, (1, 1))], [(1, (1, 1)), (0, (1, 1))], [(0, (1, 1)), (0, (1, 1))], [(0, (1, 1)), (1, (2, 1))],
            [(0, (1, 1)), (4, (1, 1))], [(-4, (1, 1)), (-3, (1, 1))], [(0, (-1, -1)), (1, (-1, -1))],
            [(0, (1, 0)), (1, (1, 0))], [(0, (0, 1)), (3, (1, 1))], [(2, (0, 1)), (3, (1, 1))],
            [(0, (1, 3)), (1, (1, 3)), (3, (2, 3))], [(2, (-1, 1)), (1, (1, 1))],
        ):
            self.assert_bad(good_bank, sides, self.bank, ("cannot", (-1, -1), weights))
        for direction in ((1, 1), (-1, -2), (0, 0), (-2, -2)):
            self.assert_bad(good_bank, sides, self.bank, ("cannot", direction, [(0, (1, 1)), (1, (1, 1))]))

    def test_cannot_by_nought(self):
        # They would show that 0 is at most -1, which is a clash and no word of the bank.
        sides = [(1, 0, 0), (-1, 0, -1)]
        self.assert_bad(good_bank, sides, self.bank, ("cannot", (0, 0), [(0, (1, 1)), (1, (1, 1))]))
        self.assert_bad(good_bank, sides, self.bank, ("cannot", (0, 0), []))

    def test_must(self):
        edges = bank_sides(self.bank)
        papers = [[(number, (1, 1))] for number in range(3)]
        self.assert_good(good_bank, edges, self.bank, ("must", papers))
        self.assert_good(good_bank, edges, self.bank, ("must", [[(number, (4, 4))] for number in range(3)]))
        inner = [(0, -1, -1), (1, 1, 3), (-1, 0, -1)]
        self.assert_good(good_bank, inner, self.bank, ("must", papers))
        self.assert_good(good_bank, [(-1, 0, -1), (0, -1, -1), (1, 0, 2), (0, 1, 2)], self.bank,
                         ("must", [[(1, (1, 1))], [(2, (1, 1)), (3, (1, 1))], [(0, (1, 1))]]))
        for number in range(3):
            wide = list(edges)
            wide[number] = wide[number][:2] + (wide[number][2] + 1,)
            self.assert_bad(good_bank, wide, self.bank, ("must", papers))

    def test_must_with_other_lists(self):
        edges = bank_sides(self.bank)
        papers = [[(number, (1, 1))] for number in range(3)]
        for other in ([], papers[:2], papers[1:], papers + [[]], papers + papers[2:], papers + papers,
                      [papers[1], papers[0], papers[2]], papers[1:] + papers[:1]):
            self.assert_bad(good_bank, edges, self.bank, ("must", other))
        for number in range(3):
            for weights in ([], [(number, (1, 2))], [(number, (-1, -1))], [(number, (1, 0))], [(number, (0, 1))],
                            [(number - 3, (1, 1))], [(number + 3, (1, 1))], [(number, (1, 2)), (number, (1, 2))]):
                other = list(papers)
                other[number] = weights
                self.assert_bad(good_bank, edges, self.bank, ("must", other))
        three = [(0, -1, 0), (1, 0, 1), (0, 1, 1), (-1, 0, 0), (1, 1, 2)]
        self.assert_good(good_bank, three, self.bank, ("must", [[(0, (1, 1))], [(4, (1, 1))], [(3, (1, 1))]]))
        split = [(1, (1, 2)), (2, (1, 2)), (4, (1, 2))]
        self.assert_bad(good_bank, three, self.bank, ("must", [[(0, (1, 1))], split, [(3, (1, 1))]]))

    def test_cannot_and_must_where_there_is_no_place(self):
        sides = [(-1, 0, -9), (1, 0, -9), (0, -1, -9), (0, 1, -9)]
        self.assert_good(good_bank, sides, self.bank, ("cannot", (-1, 0), [(0, (1, 1))]))
        self.assert_good(good_bank, sides, self.bank, ("cannot", (0, 1), [(3, (1, 1))]))
        papers = [[(2, (1, 1))], [(1, (1, 1)), (3, (1, 1))], [(0, (1, 1))]]
        self.assert_good(good_bank, sides, self.bank, ("must", papers))

    def test_can(self):
        self.assert_good(good_bank, SQUARE, self.bank, ("can", (1, 1, 1), (4, 4, 1)))
        self.assert_good(good_bank, SQUARE, self.bank, ("can", (6, 6, 3), (6, 7, 3)))
        self.assert_good(good_bank, SQUARE, self.bank, ("can", (0, 0, 5), (9, 8, 4)))
        for one, other in (
            ((4, 4, 1), (1, 1, 1)), ((1, 1, 1), (1, 1, 1)), ((4, 4, 1), (4, 4, 1)), ((1, 1, 1), (5, 5, 1)),
            ((1, 1, 1), (2, 2, 1)), ((2, 3, 1), (4, 4, 1)), ((1, 1, 0), (4, 4, 1)), ((-1, -1, -1), (4, 4, 1)),
            ((1, 1, 1), (4, 4, 0)), ((1, 1, 1), (-4, -4, -1)), ((0, 0, 0), (4, 4, 1)), ((1, 1, 1), (0, 0, 0)),
            ((1, 1, 1), (0, 0, -1)), ((0, 0, -1), (4, 4, 1)),
        ):
            self.assert_bad(good_bank, SQUARE, self.bank, ("can", one, other))
        # On the bank but not in the water.
        self.assert_bad(good_bank, [(-1, 0, -2)], self.bank, ("can", (1, 1, 1), (4, 4, 1)))
        self.assert_good(good_bank, [], self.bank, ("can", (1, 1, 1), (4, 4, 1)))

    def test_spoilt(self):
        chance = random.Random(38)
        found = {}
        for sides in self.waters(39):
            for corners in BANKS:
                told = bank_word(sides, corners)
                for paper in spoils(told, chance, 10):
                    expected = expected_bank(sides, corners, paper)
                    found[told[0], expected] = found.get((told[0], expected), 0) + 1
                    self.assertIs(good_bank(sides, corners, paper), expected, (sides, corners, paper))
        self.assertEqual(len(found), 8)
        self.assertGreater(min(found.values()), 30)


class GoodTrustTest(LookerCase):
    # East of 5, west of -5, north of 0.
    groups = [[(-1, 0, -5)], [(1, 0, -5)], [(0, -1, 0), (0, -1, 7)]]

    def all_groups(self, seed):
        for sides in self.waters(seed):
            yield [sides[number:number + 2] for number in range(0, len(sides), 2)]

    def test_what_trusted_tells(self):
        for groups in self.all_groups(40):
            self.assert_good(good_trust, groups, trusted(groups))

    def test_any_place(self):
        self.assert_good(good_trust, self.groups, ((5, 0, 1), [1]))
        self.assert_good(good_trust, self.groups, ((-5, 9, 1), [0]))
        # Others doubt fewer.
        self.assert_good(good_trust, self.groups, ((0, 0, 1), [0, 1]))
        self.assert_good(good_trust, self.groups, ((0, -1, 2), [0, 1, 2]))
        # One of the two sides is enough to doubt the group.
        self.assert_good(good_trust, self.groups, ((6, 8, 1), [1]))
        self.assert_good(good_trust, self.groups, ((6, -1, 1), [1, 2]))
        self.assert_good(good_trust, self.groups, ((6 * 10 ** 30, -1, 1), [1, 2]))
        self.assert_good(good_trust, [], ((7, 7, 7), []))

    def test_multiplied(self):
        self.assert_good(good_trust, self.groups, ((10, 4, 2), [1]))
        self.assert_good(good_trust, self.groups, ((15, 0, 3), [1]))
        self.assert_good(good_trust, self.groups, ((14, 0, 3), [0, 1]))

    def test_other_lists(self):
        for numbers in ([], [0], [1, 2], [0, 1], [1, 1], [-2], [-1], [1, 3], [-1, 1], [1, 10 ** 20], [2],
                        list(range(100000))):
            self.assert_bad(good_trust, self.groups, ((5, 0, 1), numbers))
        for numbers in ([1, 0], [0, 1, 1], [0, 0, 1], [0], [1], [0, 1, 2], [-3, -2], [0, 4], []):
            self.assert_bad(good_trust, self.groups, ((0, 0, 1), numbers))
        self.assert_bad(good_trust, [], ((0, 0, 1), [0]))
        self.assert_bad(good_trust, [], ((0, 0, 1), [-1]))

    def test_w_of_nought_and_below(self):
        for triple in ((5, 0, 0), (-5, 0, -1), (0, 0, 0), (0, 0, -1), (5, 0, -1)):
            for numbers in ([], [0], [1], [2], [0, 1], [0, 2], [1, 2], [0, 1, 2]):
                self.assert_bad(good_trust, self.groups, (triple, numbers))
        self.assert_bad(good_trust, [], ((0, 0, 0), []))
        self.assert_bad(good_trust, [], ((1, 1, -1), []))
        self.assert_good(good_trust, [], ((1, 1, 1), []))

    def test_spoilt(self):
        chance = random.Random(41)
        found = {True: 0, False: 0}
        for groups in self.all_groups(42):
            for paper in spoils(trusted(groups), chance, 12):
                expected = expected_trust(groups, paper)
                found[expected] += 1
                self.assertIs(good_trust(groups, paper), expected, (groups, paper))
        self.assertGreater(min(found.values()), 500)


class HandedListsTest(LookerCase):
    def test_nothing_is_changed_or_kept(self):
        chance = random.Random(43)
        for sides in small_waters(60, 44):
            direction = (2, 3)
            corners = list(BANKS[0])
            for paper in [reach(sides, direction)] + list(spoils(reach(sides, direction), chance, 2)):
                self.assert_new_lists(good_reach, list(sides), direction, paper)
            for paper in [bank_word(sides, corners)] + list(spoils(bank_word(sides, corners), chance, 2)):
                self.assert_new_lists(good_bank, list(sides), list(corners), paper)
            for paper in [clash(sides) or [], [(0, 1), (1, 1)]]:
                self.assert_new_lists(good_clash, list(sides), paper)
            groups = [sides[:1], sides[1:3]]
            for paper in [trusted(groups), ((0, 0, 1), [1, 0]), ((1, 1, -1), [])]:
                self.assert_new_lists(good_trust, [list(group) for group in groups], paper)


if __name__ == "__main__":
    unittest.main()
