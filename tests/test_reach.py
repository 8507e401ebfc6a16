"""Points 1 and 10 to 12: what clashes, and how far the water reaches in a direction."""

import itertools
import math
import unittest

from exact import (
    GREAT, WATERS, ExactCase, great_waters, has_place, place, round_water, sides_through, small_waters, worth,
)
from seamarks.reach import clash, reach

DIRECTIONS = [pair for pair in itertools.product(range(-3, 4), repeat=2) if pair != (0, 0)]
LONGER = [(100, -999), (-361, 127), (0, 555), (-808, 0), (123456789, -987654321), (-999999999, -1), (2, 100000001)]
PLACES = ((0, 0, 1), (3, -4, 1), (1, 2, 3), (-7, 5, 12))
SQUARE = WATERS["a square"]


class ClashTest(ExactCase):
    def assert_right(self, sides):
        told = clash(sides)
        if has_place(sides):
            self.assertIsNone(told)
        else:
            self.assert_clash(sides, told)

    def test_written_out(self):
        for name in ("no side", "one side", "contrary with a line", "three sides with one place", "a square"):
            self.assertIsNone(clash(WATERS[name]), name)
        told = clash(WATERS["contrary with nothing"])
        self.assertEqual(told[0][0], 0)
        self.assertEqual(told[1][0], 1)
        self.assertEqual(told[0][1], told[1][1])
        numbers = [number for number, weight in clash(WATERS["contrary with nothing among others"])]
        self.assertEqual(numbers, [1, 2])
        told = clash(WATERS["three sides with nothing"])
        self.assertEqual([number for number, weight in told], [0, 1, 2])
        self.assertEqual(len({weight for number, weight in told}), 1)

    def test_all_about(self):
        for name, sides in WATERS.items():
            with self.subTest(name):
                self.assert_right(sides)
        for sides in itertools.chain(small_waters(1500, 11, 9), great_waters(120, 12)):
            with self.subTest(sides=sides):
                self.assert_right(sides)

    def test_two_contrary_ones_of_unlike_size(self):
        for (a, b), one, other in itertools.product(DIRECTIONS, (1, 2, 15), (1, 4, 9)):
            pair = [(one * a, one * b, one * 7), (-other * a, -other * b, other * -7)]
            self.assertIsNone(clash(pair))
            for at in range(2):
                less = list(pair)
                less[at] = (pair[at][0], pair[at][1], pair[at][2] - 1)
                self.assert_clash(less, clash(less))

    def test_three_of_which_each_two_have_a_place(self):
        sides = WATERS["three sides with nothing by a little"]
        for order in itertools.permutations(sides):
            self.assert_clash(list(order), clash(list(order)))
            self.assertEqual(len(clash(list(order))), 3)

    def test_each_order(self):
        for name in ("contrary with nothing among others", "three sides with nothing", "a square touched at corners"):
            for order in itertools.permutations(WATERS[name][:5]):
                self.assert_right(list(order))

    def test_among_many_sides(self):
        for count in (12, 40, 62):
            sides = round_water(count)
            self.assertIsNone(clash(sides))
            for bad in ((1, 0, -8), (3, -4, -40), (-1, -1, -11), (-GREAT, 1, -8 * GREAT)):
                for at in (0, 1, count // 2, count):
                    among = sides[:at] + [bad] + sides[at:]
                    told = clash(among)
                    self.assert_clash(among, told)
                    self.assertIn(at, [number for number, weight in told])
            self.assert_right([(-a, -b, -c) for a, b, c in sides])
            self.assert_right([(-a, -b, c) for a, b, c in sides])

    def test_many_sides_through_one_place(self):
        for at in PLACES:
            sides = sides_through(at, DIRECTIONS)
            self.assertIsNone(clash(sides))
            less = [(a, b, c - (a > 2 and b > 2)) for a, b, c in sides]
            self.assert_right(less)


class ReachTest(ExactCase):
    def assert_reach(self, sides, direction):
        """Point 12 by its words; a told word shows by itself that it is the right one."""
        told = reach(sides, direction)
        self.assertIs(type(told), tuple)
        if told[0] == "none":
            self.assertEqual(len(told), 2)
            self.assert_clash(sides, told[1])
        elif told[0] == "open":
            self.assertEqual(len(told), 2)
            self.assertTrue(has_place(sides))
            self.assert_whole(told[1], 2)
            self.assertEqual(math.gcd(*told[1]), 1)
            self.assertTrue(all(worth(side, told[1]) <= 0 for side in sides))
            self.assertGreater(worth(direction, told[1]), 0)
        else:
            self.assertEqual(told[0], "far")
            self.assertEqual(len(told), 3)
            self.assert_spot_in(sides, told[1])
            self.assertEqual(self.shown_by(sides, told[2], direction), worth(direction, place(told[1])))
        return told

    def test_no_place(self):
        for name in ("contrary with nothing", "three sides with nothing", "contrary with nothing among others"):
            for direction in DIRECTIONS + LONGER:
                self.assertEqual(self.assert_reach(WATERS[name], direction)[0], "none")

    def test_no_side(self):
        for direction in DIRECTIONS + LONGER:
            self.assertEqual(self.assert_reach([], direction)[0], "open")

    def test_one_side(self):
        for (a, b), direction in itertools.product(DIRECTIONS, DIRECTIONS + LONGER):
            told = self.assert_reach([(a, b, -5)], direction)
            same = a * direction[1] == b * direction[0] and worth((a, b), direction) > 0
            self.assertEqual(told[0], "far" if same else "open")

    def test_the_weights_of_a_square(self):
        self.assertEqual(reach(SQUARE, (3, 5)), ("far", (4, 4, 1), [(0, (3, 1)), (2, (5, 1))]))
        self.assertEqual(reach(SQUARE, (-7, 2)), ("far", (0, 4, 1), [(1, (7, 1)), (2, (2, 1))]))
        self.assertEqual(reach(SQUARE, (7, -2)), ("far", (4, 0, 1), [(0, (7, 1)), (3, (2, 1))]))
        self.assertEqual(reach(SQUARE, (-1, -999999999)), ("far", (0, 0, 1), [(1, (1, 1)), (3, (999999999, 1))]))

    def test_across_an_edge(self):
        told = self.assert_reach(SQUARE, (0, 100))
        self.assertEqual((told[0], told[1][1], told[1][2]), ("far", 4, 1))
        told = self.assert_reach([(6, 10, 15), (0, -1, 0), (-1, 0, 0)], (9, 15))
        self.assertEqual(told[2], [(0, (3, 2))])
        told = self.assert_reach([(6, 10, 15)], (-6, -10))
        self.assertEqual(told, ("open", (-3, -5)))

    def test_along_an_edge(self):
        for direction in ((2, -1), (-2, 1), (-200, 100), (2000000, -1000000)):
            self.assertEqual(self.assert_reach(WATERS["one side"], direction)[0], "open")
            self.assertEqual(self.assert_reach(WATERS["contrary with a strip aslant"], direction)[0], "open")

    def test_on_a_line(self):
        sides = WATERS["contrary with a line aslant"]
        for direction in DIRECTIONS + LONGER + [(2, -3), (-2, 3), (200, -300), (-4, 6)]:
            across = 2 * direction[1] == -3 * direction[0]
            self.assertEqual(self.assert_reach(sides, direction)[0], "far" if across else "open")

    def test_at_one_place(self):
        for at in PLACES:
            sides = sides_through(at, ((1, 0), (0, 1), (-1, 0), (0, -1)))
            for many in (sides, sides + sides_through(at, DIRECTIONS), sides_through(at, ((1, 1), (-2, 1), (1, -3)))):
                for direction in DIRECTIONS + LONGER:
                    told = self.assert_reach(many, direction)
                    self.assertEqual(told[:2], ("far", at))

    def test_many_sides_through_the_farthest_place(self):
        wedge = [pair for pair in DIRECTIONS if pair[0] + pair[1] > 0]
        for at, order in itertools.product(PLACES, (wedge, wedge[::-1], wedge[1::2] + wedge[::2])):
            for a, b in DIRECTIONS + LONGER:
                told = self.assert_reach(sides_through(at, order), (a, b))
                # The outermost of the sides' directions are (3, -2) and (-2, 3).
                if 3 * b + 2 * a >= 0 and 3 * a + 2 * b >= 0:
                    self.assertEqual(told[:2], ("far", at))
                else:
                    self.assertEqual(told[0], "open")

    def test_open_and_far_of_one_water(self):
        sides = WATERS["open with two corners"]
        self.assertEqual(self.assert_reach(sides, (1, 1)), ("far", (3, 0, 1), [(0, (1, 1)), (2, (1, 1))]))
        self.assertEqual(self.assert_reach(sides, (-5, 1)), ("far", (-3, 0, 1), [(1, (5, 1)), (2, (1, 1))]))
        self.assertEqual(self.assert_reach(sides, (1, 0))[0], "far")
        self.assertEqual(self.assert_reach(sides, (0, -1)), ("open", (0, -1)))
        self.assertEqual(self.assert_reach(sides, (999, -1)), ("open", (0, -1)))

    def test_all_about(self):
        words = set()
        for name, sides in WATERS.items():
            for direction in DIRECTIONS + LONGER:
                with self.subTest(name, direction=direction):
                    words.add(self.assert_reach(sides, direction)[0])
        self.assertEqual(words, {"none", "open", "far"})
        for number, sides in enumerate(itertools.chain(small_waters(600, 13), great_waters(90, 14))):
            for direction in DIRECTIONS[number % 5::5] + LONGER[number % 3::3]:
                with self.subTest(sides=sides, direction=direction):
                    self.assert_reach(sides, direction)

    def test_in_the_sides_own_directions(self):
        for sides in itertools.chain(small_waters(300, 15), WATERS.values(), [round_water(30)]):
            for (a, b, c), factor in itertools.product(sides, (1, -1, 6)):
                with self.subTest(sides=sides, direction=(a, b)):
                    self.assert_reach(sides, (a * factor, b * factor))

    def test_many_sides(self):
        for count in (24, 40, 64):
            for size in (1000, 10 ** 11):
                sides = round_water(count, size)
                for direction in DIRECTIONS + LONGER:
                    self.assertEqual(self.assert_reach(sides, direction)[0], "far")


class HandedListsTest(ExactCase):
    def test_nothing_is_changed_or_kept(self):
        for sides in list(WATERS.values()) + [round_water(40)] + list(small_waters(60, 16)):
            with self.subTest(sides=sides):
                self.assert_new_lists(clash, list(sides))
                for direction in ((1, 0), (-3, 2)):
                    self.assert_new_lists(reach, list(sides), direction)


if __name__ == "__main__":
    unittest.main()
