"""Points 1, 4, 5, 19 and 20: directions, sides, and the sides of bearings and ranges."""

import itertools
import math
import unittest

from exact import MILLION_MILLIONS, ExactCase, place
from seamarks.sides import (
    along, bearing_sides, crossing, holds, on_edge, plain, plain_side, pushed, range_side, turn,
)

GREAT = 999999999999
AXES = ((1, 0), (0, 1), (-1, 0), (0, -1))
DIRECTIONS = [pair for pair in itertools.product(range(-3, 4), repeat=2) if pair != (0, 0)]
SIDES = [(a, b, c) for a, b in DIRECTIONS for c in (-5, -1, 0, 2, 6)]
GREAT_SIDES = [
    (GREAT, -GREAT, GREAT), (GREAT, GREAT - 1, -GREAT), (-GREAT, 1, 0), (1, GREAT, 7),
    (2 ** 39, 2 ** 38, -(2 ** 37)), (0, GREAT, -GREAT), (-(3 ** 25), 0, 3 ** 24),
]
# Ships stand on this grid and, by the halves and thirds, between its whole places too.
SHIPS = [(x, y, w) for w in (1, 2, 3) for x in range(-5, 6) for y in range(-5, 6) if math.gcd(x, y, w) == 1]


def way(start, end):
    return (end[0] - start[0], end[1] - start[1])


def left_by(one, other):
    return one[0] * other[1] - one[1] * other[0]


def leads_along(one, other):
    return left_by(one, other) == 0 and one[0] * other[0] + one[1] * other[1] > 0


def seen_in_bearing(ship, mark, one, other):
    """Point 19 by its own words: at the mark, in one of the two, or between them."""
    sight = way(ship, mark)
    if sight == (0, 0) or leads_along(one, sight) or leads_along(other, sight):
        return True
    return left_by(one, sight) > 0 and left_by(sight, other) > 0


def seen_in_range(ship, left, right):
    return left_by(way(ship, right), way(ship, left)) >= 0


class PlainCase(ExactCase):
    def assert_plain_side(self, told):
        self.assert_whole(told, 3)
        self.assertEqual(math.gcd(*told), 1)


class TurnTest(unittest.TestCase):
    def test_written_out(self):
        self.assertEqual(turn((1, 0), (0, 1)), 1)
        self.assertEqual(turn((0, 1), (1, 0)), -1)
        self.assertEqual(turn((2, 3), (5, 7)), -1)
        self.assertEqual(turn((5, 7), (2, 3)), 1)
        self.assertEqual(turn((2, 3), (4, 6)), 0)
        self.assertEqual(turn((2, 3), (-2, -3)), 0)
        self.assertEqual(turn((-2, 3), (4, -5)), -2)

    def test_both_ways_about(self):
        for one, other in itertools.product(DIRECTIONS, DIRECTIONS):
            told = turn(one, other)
            self.assertIs(type(told), int)
            self.assertEqual(told, one[0] * other[1] - one[1] * other[0])
            self.assertEqual(turn(other, one), -told)

    def test_great_numbers(self):
        self.assertEqual(turn((GREAT, GREAT - 1), (GREAT + 1, GREAT)), 1)
        self.assertEqual(turn((GREAT + 1, GREAT), (GREAT, GREAT - 1)), -1)


class AlongTest(unittest.TestCase):
    def test_written_out(self):
        self.assertEqual(along((2, 3), (5, 7)), 31)
        self.assertEqual(along((2, 3), (3, -2)), 0)
        self.assertEqual(along((2, 3), (-5, 1)), -7)
        self.assertEqual(along((2, 3, 99), (1, 0)), 2)


class PlainTest(PlainCase):
    def test_written_out(self):
        self.assertEqual(plain((6, 4)), (3, 2))
        self.assertEqual(plain((-6, 4)), (-3, 2))
        self.assertEqual(plain((6, -4)), (3, -2))
        self.assertEqual(plain((-6, -4)), (-3, -2))
        self.assertEqual(plain((3, 2)), (3, 2))
        self.assertEqual(plain((-1, -1)), (-1, -1))

    def test_along_an_axis(self):
        for axis in AXES:
            for length in (1, 2, 5, 100, MILLION_MILLIONS):
                self.assertEqual(plain((axis[0] * length, axis[1] * length)), axis)

    def test_the_same_way_and_never_the_other_one(self):
        numbers = (0, 1, -1, 2, -3, 6, -10, 100, 2 ** 39, -(3 ** 20), GREAT, -MILLION_MILLIONS)
        for direction in itertools.product(numbers, numbers):
            if direction != (0, 0):
                told = plain(direction)
                self.assert_whole(told, 2)
                self.assertEqual(math.gcd(*told), 1)
                self.assertTrue(leads_along(direction, told))


class PlainSideTest(PlainCase):
    def test_written_out(self):
        self.assertEqual(plain_side((2, 4, 6)), (1, 2, 3))
        self.assertEqual(plain_side((-2, -4, -6)), (-1, -2, -3))
        self.assertEqual(plain_side((-2, 4, 6)), (-1, 2, 3))
        self.assertEqual(plain_side((2, 4, 5)), (2, 4, 5))
        self.assertEqual(plain_side((6, 10, 15)), (6, 10, 15))
        self.assertEqual(plain_side((0, -7, 0)), (0, -1, 0))
        self.assertEqual(plain_side((-7, 0, 14)), (-1, 0, 2))
        self.assertEqual(plain_side((0, 4, -6)), (0, 2, -3))

    def test_the_same_places(self):
        for side in SIDES + GREAT_SIDES:
            for factor in (1, 2, 9, 1000003):
                told = plain_side(tuple(number * factor for number in side))
                self.assert_plain_side(told)
                self.assertEqual(tuple(number * math.gcd(*side) for number in told), side)


class HoldsAndOnEdgeTest(unittest.TestCase):
    def test_written_out(self):
        side = (1, 2, 3)
        self.assertIs(holds(side, (0, 0, 1)), True)
        self.assertIs(holds(side, (1, 1, 1)), True)
        self.assertIs(holds(side, (2, 1, 1)), False)
        self.assertIs(on_edge(side, (0, 0, 1)), False)
        self.assertIs(on_edge(side, (1, 1, 1)), True)
        self.assertIs(on_edge(side, (2, 1, 1)), False)
        self.assertIs(on_edge(side, (0, 3, 2)), True)

    def test_spots_all_about(self):
        for side, ship in itertools.product(SIDES, SHIPS):
            x, y = place(ship)
            worth = side[0] * x + side[1] * y
            self.assertIs(holds(side, ship), worth <= side[2])
            self.assertIs(on_edge(side, ship), worth == side[2])

    def test_beside_the_edge_by_a_small_part_of_one(self):
        w = MILLION_MILLIONS
        for side, x, y in (((1, 0, 4), 4, 9), ((0, 1, -2), 7, -2), ((3, -2, 0), 2, 3), ((-5, 4, 3), 1, 2)):
            step_x = (side[0] > 0) - (side[0] < 0)
            step_y = (side[1] > 0) - (side[1] < 0)
            edge = (x, y, 1)
            within = (x * w - step_x, y * w - step_y, w)
            outside = (x * w + step_x, y * w + step_y, w)
            told = [(holds(side, spot), on_edge(side, spot)) for spot in (within, edge, outside)]
            self.assertEqual(told, [(True, False), (True, True), (False, False)])

    def test_great_numbers(self):
        side = (GREAT, -GREAT, 1)
        self.assertIs(holds(side, (1, 0, GREAT)), True)
        self.assertIs(on_edge(side, (1, 0, GREAT)), True)
        self.assertIs(holds(side, (1, 0, GREAT - 1)), False)
        self.assertIs(on_edge(side, (1, 0, GREAT + 1)), False)
        self.assertIs(holds(side, (1, 0, GREAT + 1)), True)


class CrossingTest(PlainCase):
    def test_written_out(self):
        self.assertEqual(crossing((1, 0, 3), (0, 1, -4)), (3, -4, 1))
        self.assertEqual(crossing((0, 1, -4), (1, 0, 3)), (3, -4, 1))
        self.assertEqual(crossing((2, 0, 1), (0, 3, 1)), (3, 2, 6))
        self.assertEqual(crossing((1, 1, 0), (1, -1, 0)), (0, 0, 1))
        self.assertEqual(crossing((1, 2, 3), (3, -1, 2)), (1, 1, 1))
        self.assertEqual(crossing((-2, 0, 1), (0, -2, 1)), (-1, -1, 2))

    def test_a_spot_on_both_edges_either_way_about(self):
        for one, other in itertools.product(SIDES + GREAT_SIDES, GREAT_SIDES + SIDES[::7]):
            told = crossing(one, other)
            if one[0] * other[1] == one[1] * other[0]:
                self.assertIsNone(told)
                continue
            self.assert_whole(told, 3)
            self.assertGreaterEqual(told[2], 1)
            self.assertEqual(math.gcd(*told), 1)
            x, y = place(told)
            self.assertEqual(one[0] * x + one[1] * y, one[2])
            self.assertEqual(other[0] * x + other[1] * y, other[2])
            self.assertEqual(crossing(other, one), told)

    def test_none_where_they_do_not_cross(self):
        for a, b, c in SIDES + GREAT_SIDES:
            alike = (a, b, c)
            contrary = (-a, -b, -c)
            beside = (a, b, c + 1)
            longer = (3 * a, 3 * b, c - 2)
            facing = (-2 * a, -2 * b, c + 5)
            for other in (alike, contrary, beside, longer, facing):
                self.assertIsNone(crossing((a, b, c), other))
                self.assertIsNone(crossing(other, (a, b, c)))

    def test_nearly_beside_one_another(self):
        one = (GREAT, GREAT - 1, 1)
        other = (GREAT - 1, GREAT - 2, 1)
        self.assertEqual(crossing(one, other), (1, -1, 1))
        self.assertEqual(crossing(other, one), (1, -1, 1))


class PushedTest(PlainCase):
    def test_written_out(self):
        self.assertEqual(pushed((1, 2, 3), 10, 100), (1, 2, 213))
        self.assertEqual(pushed((1, 2, 3), -10, 0), (1, 2, -7))
        self.assertEqual(pushed((-2, 5, 0), 3, -4), (-2, 5, -26))
        self.assertEqual(pushed((1, 2, 3), 0, 0), (1, 2, 3))

    def test_it_is_not_made_plain(self):
        self.assertEqual(pushed((2, 4, 6), 1, 1), (2, 4, 12))

    def test_there_and_back(self):
        for side in SIDES + GREAT_SIDES:
            for x, y in ((0, 0), (1, 0), (0, 1), (-3, 7), (1000, -1000), (-12000, 12000)):
                told = pushed(side, x, y)
                self.assert_whole(told, 3)
                self.assertEqual(told, (side[0], side[1], side[2] + side[0] * x + side[1] * y))
                self.assertEqual(pushed(told, -x, -y), side)

    def test_it_holds_the_places_that_were_led_on(self):
        for side, ship in itertools.product(SIDES[::3], SHIPS[::5]):
            led = (ship[0] + 4 * ship[2], ship[1] - 7 * ship[2], ship[2])
            self.assertIs(holds(pushed(side, 4, -7), led), holds(side, ship))


def bearings():
    marks = ((0, 0), (3, -4), (-2, 5))
    for mark, one, other in itertools.product(marks, DIRECTIONS, DIRECTIONS):
        if left_by(one, other) > 0:
            yield mark, one, other


class BearingSidesTest(PlainCase):
    def test_written_out(self):
        self.assertEqual(bearing_sides((3, -4), (1, 0), (0, 1)), [(0, 1, -4), (1, 0, 3)])
        self.assertEqual(bearing_sides((3, -4), (4, 0), (0, 6)), [(0, 1, -4), (1, 0, 3)])
        self.assertEqual(bearing_sides((5, 7), (2, 1), (-1, 3)), [(-1, 2, 9), (3, 1, 22)])
        self.assertEqual(bearing_sides((0, 0), (2, -2), (3, 3)), [(1, 1, 0), (1, -1, 0)])

    def test_two_plain_sides_in_order(self):
        for (x, y), (a, b), (c, d) in bearings():
            told = bearing_sides((x, y), (a, b), (c, d))
            self.assertIs(type(told), list)
            self.assertEqual(len(told), 2)
            asked = [(-b, a, a * y - b * x), (d, -c, d * x - c * y)]
            for side, by_the_point in zip(told, asked):
                self.assert_plain_side(side)
                factor = math.gcd(*by_the_point)
                self.assertEqual(tuple(number * factor for number in side), by_the_point)

    def test_at_on_between_behind_and_beside(self):
        mark, one, other = (10, 20), (2, 1), (-1, 3)
        seen_from = {
            "the mark": (10, 20), "the first ray": (8, 19), "far on the first ray": (-190, -80),
            "the second ray": (11, 17), "between": (9, 16),
        }
        not_from = {
            "behind on the first": (12, 21), "behind on the second": (9, 23), "behind": (11, 24),
            "right of the first": (8, 20), "left of the second": (12, 17), "beside": (20, 20),
        }
        sides = bearing_sides(mark, one, other)
        for name, ship in seen_from.items():
            with self.subTest(name):
                self.assertTrue(all(holds(side, ship + (1,)) for side in sides))
        for name, ship in not_from.items():
            with self.subTest(name):
                self.assertFalse(all(holds(side, ship + (1,)) for side in sides))

    def test_just_the_places_of_the_point(self):
        for mark, one, other in list(bearings())[::5]:
            sides = bearing_sides(mark, one, other)
            for ship in SHIPS[::3]:
                told = all(holds(side, ship) for side in sides)
                self.assertEqual(told, seen_in_bearing(place(ship), mark, one, other))

    def test_on_the_rays_and_behind_them(self):
        for mark, one, other in bearings():
            sides = bearing_sides(mark, one, other)
            for ray in (one, other):
                for steps in (-2, -1, 0, 1, 2):
                    ship = (mark[0] - steps * ray[0], mark[1] - steps * ray[1], 1)
                    self.assertEqual(all(holds(side, ship) for side in sides), steps >= 0)

    def test_nearly_straight_and_nearly_alike(self):
        for one, other in (((100, 99), (99, 98)), ((100, 1), (-99, -1)), ((100, 99), (-99, -98))):
            if left_by(one, other) < 0:
                one, other = other, one
            sides = bearing_sides((1000, -1000), one, other)
            for steps in itertools.product(range(-2, 3), repeat=2):
                ship = tuple((1000, -1000)[k] - steps[0] * one[k] - steps[1] * other[k] for k in (0, 1))
                told = all(holds(side, ship + (1,)) for side in sides)
                self.assertEqual(told, min(steps) >= 0)

    def test_the_told_list_is_a_new_one(self):
        told = bearing_sides((3, -4), (1, 0), (0, 1))
        told[0] = (9, 9, 9)
        told.append((1, 1, 1))
        self.assertEqual(bearing_sides((3, -4), (1, 0), (0, 1)), [(0, 1, -4), (1, 0, 3)])


def ranges():
    places = ((0, 0), (3, -4), (-2, 5), (4, 4), (0, -3), (3, 2), (-1000, 1000))
    return [(left, right) for left, right in itertools.product(places, places) if left != right]


class RangeSideTest(PlainCase):
    def test_written_out(self):
        self.assertEqual(range_side((0, 0), (4, 0)), (0, 1, 0))
        self.assertEqual(range_side((4, 0), (0, 0)), (0, -1, 0))
        self.assertEqual(range_side((1, 5), (4, 3)), (2, 3, 17))
        self.assertEqual(range_side((4, 3), (1, 5)), (-2, -3, -17))
        self.assertEqual(range_side((2, 2), (2, 8)), (-1, 0, -2))

    def test_a_plain_side_by_the_point(self):
        for (p, q), (x, y) in ranges():
            told = range_side((p, q), (x, y))
            self.assert_plain_side(told)
            by_the_point = (q - y, x - p, x * q - y * p)
            factor = math.gcd(*by_the_point)
            self.assertEqual(tuple(number * factor for number in told), by_the_point)

    def test_at_each_mark_between_behind_and_to_both_sides(self):
        left, right = (0, 10), (8, 10)
        side = range_side(left, right)
        for x in (0, 8, 3, -5, 20):
            self.assertIs(holds(side, (x, 10, 1)), True)
            self.assertIs(on_edge(side, (x, 10, 1)), True)
            self.assertIs(holds(side, (x, 9, 1)), True)
            self.assertIs(holds(side, (x, 11, 1)), False)
            self.assertIs(holds(range_side(right, left), (x, 9, 1)), False)
            self.assertIs(holds(range_side(right, left), (x, 11, 1)), True)

    def test_just_the_places_of_the_point(self):
        for left, right in ranges():
            side = range_side(left, right)
            for ship in SHIPS:
                self.assertIs(holds(side, ship), seen_in_range(place(ship), left, right))
            for mark in (left, right):
                self.assertIs(on_edge(side, mark + (1,)), True)


if __name__ == "__main__":
    unittest.main()
