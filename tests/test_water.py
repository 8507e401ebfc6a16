"""Points 1 and 5 to 9: corners, ring, a spot of the water, ways, whether it is closed, and its area."""

import itertools
import math
import unittest
from fractions import Fraction

from exact import (
    GREAT, WATERS, ExactCase, great_waters, has_place, is_closed, place, round_water, sides_through,
    small_waters, worth,
)
from seamarks.water import area, closed, corners, ring, some_spot, ways

DIRECTIONS = [pair for pair in itertools.product(range(-3, 4), repeat=2) if math.gcd(*pair) == 1]
QUARTERS = ((1, 0), (0, 1), (-1, 0), (0, -1))
PLACES = ((0, 0, 1), (3, -4, 1), (1, 2, 3), (-7, 5, 12), (GREAT, 1, GREAT - 1))
SQUARE = WATERS["a square"]


def all_waters():
    for name, sides in WATERS.items():
        yield name, sides
    for number, sides in enumerate(itertools.chain(small_waters(700, 1), great_waters(60, 2))):
        yield number, sides
    for at in PLACES:
        for count in (2, 3, 5, 11):
            yield at, sides_through(at, DIRECTIONS[:count])
            yield at, sides_through(at, DIRECTIONS[::3][:count])


def expected_corners(sides):
    """Each place of the water on two edges that cross, by fractions, each two of the sides tried."""
    found = set()
    for (a, b, c), (d, e, f) in itertools.combinations(sides, 2):
        bottom = a * e - b * d
        if bottom != 0:
            at = (Fraction(c * e - b * f, bottom), Fraction(a * f - c * d, bottom))
            if all(worth(side, at) <= side[2] for side in sides):
                found.add(at)
    return sorted(found)


def turned_left(one, other, third):
    return (other[0] - one[0]) * (third[1] - one[1]) - (other[1] - one[1]) * (third[0] - one[0])


def expected_area(sides):
    """Closed water cut at its corners into upright strips: between cuts its height goes on evenly."""
    cuts = sorted({at[0] for at in expected_corners(sides)})

    def height(x):
        top = min((Fraction(c) - a * x) / b for a, b, c in sides if b > 0)
        return top - max((Fraction(c) - a * x) / b for a, b, c in sides if b < 0)

    return sum(((height(x) + height(y)) / 2 * (y - x) for x, y in zip(cuts, cuts[1:])), Fraction(0))


class CornersTest(ExactCase):
    def test_written_out(self):
        expected = {
            "no side": [],
            "one side": [],
            "sides alike": [],
            "one side times numbers": [],
            "beside one another": [],
            "contrary with a strip": [],
            "contrary with a line": [],
            "contrary with nothing": [],
            "contrary with nothing among others": [],
            "three sides with nothing": [],
            "open with one corner": [(0, 0, 1)],
            "open with one corner aslant": [(25, 22, 29)],
            "open with two corners": [(-3, 0, 1), (3, 0, 1)],
            "open with one way": [(0, -2, 1), (1, 1, 1)],
            "a ray": [(5, 2, 1)],
            "three sides with a triangle": [(0, 0, 1), (0, 1, 1), (1, 0, 1)],
            "three sides with one place": [(0, 0, 1)],
            "one place by four sides": [(2, 5, 1)],
            "a stretch": [(2, -5, 1), (2, 5, 1)],
            "a stretch aslant": [(1, 1, 2), (4, -1, 3)],
            "a square": [(0, 0, 1), (0, 4, 1), (4, 0, 1), (4, 4, 1)],
            "a square in thirds": [(1, -7, 3), (1, 2, 3), (4, -7, 3), (4, 2, 3)],
            "a square with idle sides": [(0, 0, 1), (0, 4, 1), (4, 0, 1), (4, 4, 1)],
            "a square touched at corners": [(0, 0, 1), (0, 4, 1), (4, 0, 1), (4, 4, 1)],
        }
        for name, told in expected.items():
            with self.subTest(name):
                self.assertEqual(corners(WATERS[name]), told)

    def test_rising_by_worth_and_not_by_numbers(self):
        told = corners([(-5, 0, -1), (2, 0, 1), (0, 3, 2), (0, -2, -1)])
        self.assertEqual(told, [(2, 5, 10), (3, 10, 15), (1, 1, 2), (3, 4, 6)])

    def test_all_about(self):
        for name, sides in all_waters():
            with self.subTest(name, sides=sides):
                told = corners(sides)
                self.assertIs(type(told), list)
                for triple in told:
                    self.assert_spot_in(sides, triple)
                self.assertEqual([place(triple) for triple in told], expected_corners(sides))

    def test_the_order_and_the_size_of_the_sides_change_nothing(self):
        for name, sides in WATERS.items():
            factors = itertools.cycle((1, 5, 2, 12))
            others = [tuple(number * factor for number in side) for side, factor in zip(sides[::-1], factors)]
            with self.subTest(name):
                self.assertEqual(corners(others), corners(sides))
                self.assertEqual(corners(others + sides), corners(sides))

    def test_many_sides_through_one_place(self):
        for at in PLACES:
            self.assertEqual(corners(sides_through(at, DIRECTIONS)), [at])
            self.assertEqual(corners(sides_through(at, DIRECTIONS) + [(0, 1, 10 ** 13)]), [at])

    def test_many_sides(self):
        for count in (9, 24, 40, 48, 64, 70):
            sides = round_water(count)
            told = corners(sides)
            self.assertEqual(len(told), count)
            self.assertEqual([place(triple) for triple in told], expected_corners(sides))


class RingTest(ExactCase):
    def test_written_out(self):
        self.assertEqual(ring([]), [])
        self.assertEqual(ring(WATERS["one side"]), [])
        self.assertEqual(ring(WATERS["open with one corner"]), [(0, 0, 1)])
        self.assertEqual(ring(WATERS["open with two corners"]), [(-3, 0, 1), (3, 0, 1)])
        self.assertEqual(ring(WATERS["a stretch"]), [(2, -5, 1), (2, 5, 1)])
        self.assertEqual(ring(WATERS["three sides with a triangle"]), [(0, 0, 1), (1, 0, 1), (0, 1, 1)])
        self.assertEqual(ring(SQUARE), [(0, 0, 1), (4, 0, 1), (4, 4, 1), (0, 4, 1)])
        thirds = [(1, -7, 3), (4, -7, 3), (4, 2, 3), (1, 2, 3)]
        self.assertEqual(ring(WATERS["a square in thirds"]), thirds)

    def assert_ring(self, sides):
        told = ring(sides)
        self.assertIs(type(told), list)
        rising = corners(sides)
        self.assertEqual(told[:1], rising[:1])
        self.assertEqual(sorted(told), sorted(rising))
        at = [place(triple) for triple in told]
        for one, later in itertools.combinations(at[1:], 2):
            self.assertGreater(turned_left(at[0], one, later), 0)

    def test_all_about(self):
        for name, sides in all_waters():
            with self.subTest(name, sides=sides):
                self.assert_ring(sides)

    def test_many_sides(self):
        for count in (9, 24, 40, 64):
            self.assert_ring(round_water(count))
            # Without one side the ring is closed no more, or goes on to where its neighbours cross.
            self.assert_ring(round_water(count)[1:])


class SomeSpotTest(ExactCase):
    def test_all_about(self):
        for name, sides in all_waters():
            with self.subTest(name, sides=sides):
                told = some_spot(sides)
                if has_place(sides):
                    self.assert_spot_in(sides, told)
                else:
                    self.assertIsNone(told)

    def test_no_two_sides_cross(self):
        self.assert_spot_in([], some_spot([]))
        for a, b in DIRECTIONS:
            for c in (-9, -1, 0, 4):
                self.assert_spot_in([(a, b, c)], some_spot([(a, b, c)]))
                many = [(k * a, k * b, k * c - k + 5) for k in (4, 1, 3, 2, 9)]
                self.assert_spot_in(many, some_spot(many))
                strip = many + [(-2 * a, -2 * b, -2 * c + 2)]
                self.assert_spot_in(strip, some_spot(strip))
                self.assertIsNone(some_spot(many + [(-2 * a, -2 * b, -2 * c - 2)]))

    def test_one_place_alone(self):
        for at in PLACES:
            sides = sides_through(at, QUARTERS)
            for order in itertools.permutations(sides):
                self.assertEqual(some_spot(list(order)), at)

    def test_one_line_alone(self):
        for a, b in DIRECTIONS:
            sides = [(3 * a, 3 * b, 7), (-6 * a, -6 * b, -14)]
            self.assert_spot_in(sides, some_spot(sides))
            self.assert_spot_in(sides + [(1, 1, 99)], some_spot(sides + [(1, 1, 99)]))

    def test_a_hair_more_or_less(self):
        for order in itertools.permutations([(-GREAT, 1, 0), (GREAT, 1, 0)]):
            self.assertIsNone(some_spot(list(order) + [(0, -GREAT, -1)]))
            self.assertEqual(some_spot(list(order) + [(0, -GREAT, 0)]), (0, 0, 1))

    def test_many_sides(self):
        for count in (9, 40, 64):
            sides = round_water(count)
            self.assert_spot_in(sides, some_spot(sides))
            far = [(a, b, c + 500 * a - 70 * b) for a, b, c in sides]
            self.assert_spot_in(far, some_spot(far))
            self.assertIsNone(some_spot(sides + far))
            self.assertIsNone(some_spot([(-a, -b, -c) for a, b, c in sides]))


class WaysTest(ExactCase):
    def test_written_out(self):
        self.assertEqual(ways([]), [])
        self.assertEqual(ways([(1, 2, 3)]), [(-2, 1), (2, -1)])
        self.assertEqual(ways([(10, 20, 3), (1, 2, 3)]), [(-2, 1), (2, -1)])
        self.assertEqual(ways([(0, -4, 3)]), [(-1, 0), (1, 0)])
        self.assertEqual(ways(WATERS["contrary with a strip"]), [(0, -1), (0, 1)])
        self.assertEqual(ways(WATERS["contrary with a line"]), [(0, -1), (0, 1)])
        self.assertEqual(ways(WATERS["contrary with nothing"]), [(0, -1), (0, 1)])
        self.assertEqual(ways(WATERS["open with one corner"]), [(-1, 0), (0, -1)])
        self.assertEqual(ways(WATERS["open with two corners"]), [(0, -1)])
        self.assertEqual(ways(WATERS["open with one way"]), [(-2, 1)])
        self.assertEqual(ways(SQUARE), [])
        self.assertEqual(ways(WATERS["three sides with nothing"]), [])
        self.assertEqual(ways([(GREAT, 1, 0), (-GREAT, 2, 0)]), [(-2, -GREAT), (1, -GREAT)])

    def test_nothing_but_the_first_two_numbers_counts(self):
        for sides in small_waters(200, 3):
            self.assertEqual(ways([(a, b, -9 - a) for a, b, c in sides]), ways(sides))

    def test_all_about(self):
        candidates = [pair for pair in itertools.product(range(-4, 5), repeat=2) if math.gcd(*pair) == 1]
        for sides in small_waters(500, 4):
            expected = [
                way for way in candidates
                if all(worth(side, way) <= 0 for side in sides) and any(worth(side, way) == 0 for side in sides)
            ]
            told = ways(sides)
            self.assertIs(type(told), list)
            for way in told:
                self.assert_whole(way, 2)
            self.assertEqual(told, sorted(expected), sides)


class ClosedTest(ExactCase):
    def test_written_out(self):
        for name in ("three sides with a triangle", "three sides with one place", "one place by four sides",
                     "a stretch", "a square", "a square in thirds", "a square with idle sides"):
            self.assertIs(closed(WATERS[name]), True, name)
        for name in ("no side", "one side", "contrary with a strip", "contrary with a line", "contrary with nothing",
                     "three sides with nothing", "open with one corner", "open with two corners", "open with one way",
                     "a ray"):
            self.assertIs(closed(WATERS[name]), False, name)

    def test_all_about(self):
        for name, sides in all_waters():
            self.assertIs(closed(sides), is_closed(sides), (name, sides))


class AreaTest(ExactCase):
    def test_nought(self):
        for name in ("contrary with nothing", "contrary with nothing aslant", "contrary with nothing among others",
                     "three sides with nothing", "three sides with nothing by a little",
                     "three sides with one place", "one place by four sides", "a stretch", "a stretch aslant"):
            self.assertEqual(area(WATERS[name]), (0, 1), name)

    def test_none(self):
        for name in ("no side", "one side", "sides alike", "beside one another", "contrary with a strip",
                     "contrary with a line", "open with one corner", "open with two corners", "open with one way",
                     "a ray"):
            self.assertIsNone(area(WATERS[name]), name)

    def test_written_out(self):
        self.assertEqual(area(WATERS["three sides with a triangle"]), (1, 2))
        self.assertEqual(area(SQUARE), (16, 1))
        self.assertEqual(area(WATERS["a square far off"]), (16, 1))
        self.assertEqual(area(WATERS["a square in thirds"]), (3, 1))
        self.assertEqual(area([(-3, 0, -1), (0, -3, -1), (3, 3, 4)]), (2, 9))
        self.assertEqual(area([(-2, 0, -1), (0, -3, -1), (5, 7, 11)]), (1369, 2520))

    def test_all_about(self):
        for name, sides in all_waters():
            with self.subTest(name, sides=sides):
                told = area(sides)
                if has_place(sides) and not is_closed(sides):
                    self.assertIsNone(told)
                    continue
                self.assert_lowest(told, 2)
                expected = expected_area(sides) if has_place(sides) else 0
                self.assertEqual(Fraction(*told), expected)

    def test_many_corners(self):
        for count in (9, 24, 40, 64):
            for size in (1000, 10 ** 11):
                sides = round_water(count, size)
                self.assertTrue(any(triple[2] != 1 for triple in corners(sides)))
                told = area(sides)
                self.assert_lowest(told, 2)
                self.assertEqual(Fraction(*told), expected_area(sides))


class HandedListsTest(ExactCase):
    def test_nothing_is_changed_or_kept(self):
        waters = list(WATERS.values()) + [round_water(40)] + list(small_waters(60, 5))
        for function, sides in itertools.product((corners, ring, some_spot, ways, closed, area), waters):
            with self.subTest(function.__name__, sides=sides):
                self.assert_new_lists(function, list(sides))


if __name__ == "__main__":
    unittest.main()
