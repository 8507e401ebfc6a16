"""Points 1, 14 and 15: banks, their sides, and their words."""

import itertools
import math
import random
import unittest

from exact import (
    GREAT, WATERS, ExactCase, great_waters, has_place, in_all, round_water, sides_through, small_waters, worth,
)
from seamarks.banks import bank_sides, bank_word, is_bank

SQUARE = [(0, 0), (4, 0), (4, 4), (0, 4)]
TRIANGLE = [(0, 0), (5, -1), (2, 4)]
# Twelve corners round to the left; the first so many of them are such a ring, too.
ROUND = [(0, 0), (3, 1), (5, 2), (6, 3), (7, 5), (8, 8), (7, 9), (5, 10), (2, 10), (0, 9), (-1, 7), (-1, 3)]
EIGHT = ROUND[:8]
QUARTERS = ((1, 0), (0, 1), (-1, 0), (0, -1))
BANKS = [SQUARE, TRIANGLE, EIGHT, ROUND[:5], [(-1, -1), (1, -1), (0, 7)], [(-3, 2), (-2, 2), (-2, 3)]]


def left_by(start, end, corner):
    return (end[0] - start[0]) * (corner[1] - start[1]) - (end[1] - start[1]) * (corner[0] - start[0])


def expected_bank(corners):
    """Point 14 by its own words."""
    count = len(corners)
    if not 3 <= count <= 8:
        return False
    stretches = [(number, (number + 1) % count) for number in range(count)]
    return all(
        left_by(corners[one], corners[other], corners[number]) > 0
        for one, other in stretches for number in range(count) if number not in (one, other)
    )


class IsBankTest(ExactCase):
    def test_none_to_twelve(self):
        for count in range(13):
            self.assertIs(is_bank(ROUND[:count]), 3 <= count <= 8, count)

    def test_wherever_it_begins(self):
        for corners in BANKS:
            for at in range(len(corners)):
                self.assertIs(is_bank(corners[at:] + corners[:at]), True)

    def test_round_to_the_right(self):
        for corners in BANKS:
            self.assertIs(is_bank(corners[::-1]), False)

    def test_corners_in_one_line(self):
        self.assertIs(is_bank([(0, 0), (1, 1), (2, 2)]), False)
        self.assertIs(is_bank([(0, 0), (2, 0), (4, 0), (4, 4)]), False)
        for at in range(4):
            one, other = SQUARE[at], SQUARE[(at + 1) % 4]
            middle = ((one[0] + other[0]) // 2, (one[1] + other[1]) // 2)
            self.assertIs(is_bank(SQUARE[:at + 1] + [middle] + SQUARE[at + 1:]), False)

    def test_corners_alike(self):
        self.assertIs(is_bank([(1, 2)] * 3), False)
        self.assertIs(is_bank([(0, 0), (4, 0), (0, 0)]), False)
        for corners in BANKS[:2]:
            for at, other in itertools.product(range(len(corners)), repeat=2):
                self.assertIs(is_bank(corners[:at] + [corners[other]] + corners[at:]), False)

    def test_round_twice(self):
        self.assertIs(is_bank(TRIANGLE + TRIANGLE), False)
        self.assertIs(is_bank(SQUARE + SQUARE), False)
        star = [(0, 10), (-6, -8), (9, 3), (-9, 3), (6, -8)]
        self.assertTrue(all(left_by(star[k - 2], star[k - 1], star[k]) > 0 for k in range(5)))
        self.assertIs(is_bank(star), False)
        twice = [(0, 0), (9, 0), (0, 9), (-1, -1), (10, -1), (1, 10)]
        self.assertIs(is_bank(twice), False)

    def test_dented_and_crossing(self):
        self.assertIs(is_bank([(0, 0), (4, 0), (1, 1), (0, 4)]), False)
        self.assertIs(is_bank([(0, 0), (4, 4), (4, 0), (0, 4)]), False)

    def test_by_a_hair(self):
        self.assertIs(is_bank([(0, 0), (GREAT, GREAT - 1), (GREAT + 1, GREAT)]), True)
        self.assertIs(is_bank([(0, 0), (GREAT + 1, GREAT), (GREAT, GREAT - 1)]), False)

    def test_all_about(self):
        grid = list(itertools.product(range(3), repeat=2))
        for count in (1, 2, 3, 4):
            for corners in itertools.product(grid, repeat=count):
                self.assertIs(is_bank(list(corners)), expected_bank(corners))
        chance = random.Random(31)
        for number in range(3000):
            corners = [(chance.randint(-4, 4), chance.randint(-4, 4)) for corner in range(5 + number % 3)]
            around = sorted(corners, key=lambda pair: math.atan2(pair[1], pair[0]))
            self.assertIs(is_bank(corners), expected_bank(corners))
            self.assertIs(is_bank(around), expected_bank(around))


class BankSidesTest(ExactCase):
    def test_written_out(self):
        self.assertEqual(bank_sides(SQUARE), [(0, -1, 0), (1, 0, 4), (0, 1, 4), (-1, 0, 0)])
        self.assertEqual(bank_sides([(0, 0), (4, 0), (0, 4)]), [(0, -1, 0), (1, 1, 4), (-1, 0, 0)])
        self.assertEqual(bank_sides(TRIANGLE), [(-1, -5, 0), (5, 3, 22), (-2, 1, 0)])

    def test_each_stretch_on_its_edge_and_all_corners_in_it(self):
        far = [(-1000, -1000), (1000, -998), (-999, 1000)]
        for corners in BANKS + [far, ROUND, [(3 * x - 50, 3 * y + 7) for x, y in EIGHT]]:
            told = bank_sides(corners)
            self.assertIs(type(told), list)
            self.assertEqual(len(told), len(corners))
            for number, side in enumerate(told):
                self.assert_whole(side, 3)
                self.assertEqual(math.gcd(*side), 1)
                worths = [worth(side, corner) for corner in corners]
                self.assertEqual(worths[number], side[2])
                self.assertEqual(worths[(number + 1) % len(corners)], side[2])
                self.assertLessEqual(max(worths), side[2])


class BankWordTest(ExactCase):
    def assert_word(self, sides, corners):
        """Point 15 by its words; a told word shows by itself that it is the right one, where there is a place."""
        told = bank_word(sides, corners)
        edges = bank_sides(corners)
        self.assertIs(type(told), tuple)
        self.assertEqual(told[0] == "none", not has_place(sides))
        if told[0] == "none":
            self.assertEqual(len(told), 2)
            self.assert_clash(sides, told[1])
        elif told[0] == "cannot":
            self.assertEqual(len(told), 3)
            self.assert_whole(told[1], 2)
            self.assertNotEqual(told[1], (0, 0))
            shown = self.shown_by(sides, told[2], told[1])
            self.assertLess(shown, min(worth(told[1], corner) for corner in corners))
        elif told[0] == "must":
            self.assertEqual(len(told), 2)
            self.assertIs(type(told[1]), list)
            self.assertEqual(len(told[1]), len(edges))
            for edge, weights in zip(edges, told[1]):
                self.assertLessEqual(self.shown_by(sides, weights, edge[:2]), edge[2])
        else:
            self.assertEqual(told[0], "can")
            self.assertEqual(len(told), 3)
            self.assert_spot_in(sides + edges, told[1])
            self.assert_spot_in(sides, told[2])
            self.assertFalse(in_all(edges, told[2]), told)
        return told

    def assert_told(self, sides, word, corners=SQUARE):
        for order in (sides, sides[::-1], sides[1:] + sides[:1]):
            told = self.assert_word(order, corners)
            self.assertEqual(told[0], word)
        return told

    def test_no_side(self):
        for corners in BANKS:
            self.assert_told([], "can", corners)
            self.assert_told([], "can", [(x + 90, y - 70) for x, y in corners])
            self.assert_told([], "can", [(x - 900, y - 900) for x, y in corners])

    def test_no_place(self):
        for name in ("contrary with nothing", "contrary with nothing among others", "three sides with nothing"):
            for corners in BANKS:
                self.assert_told(WATERS[name], "none", corners)

    def test_touching_in_one_place(self):
        told = self.assert_told([(1, 0, 0), (0, 1, 0)], "can")
        self.assertEqual(told[1], (0, 0, 1))
        told = self.assert_told([(1, 1, 0)], "can")
        self.assertEqual(told[1], (0, 0, 1))
        told = self.assert_told([(-1, -1, -8)], "can")
        self.assertEqual(told[1], (4, 4, 1))
        # The water's own corner touches in the middle of a stretch.
        told = self.assert_told([(-2, 1, -6), (-2, -1, -10)], "can")
        self.assertEqual(told[1], (4, 2, 1))
        self.assert_told([(-2, 1, -7), (-2, -1, -10)], "cannot")

    def test_touching_along_a_stretch(self):
        for sides in ([(1, 0, 0)], [(-1, 0, -4)], [(0, 1, 0), (1, 0, 3)], [(0, -1, -4), (0, 1, 9), (1, 0, 2)]):
            self.assert_told(sides, "can")
        self.assert_told([(1, 0, 0), (-1, 0, 0)], "can")
        self.assert_told([(1, 0, 0), (-1, 0, 0), (0, 1, 4), (0, -1, 0)], "must")
        self.assert_told([(1, 0, 0), (-1, 0, 0), (0, 1, 5), (0, -1, 0)], "can")

    def test_within(self):
        self.assert_told([(1, 0, 3), (-1, 0, -1), (0, 1, 3), (0, -1, -1)], "must")
        self.assert_told([(1, 1, 3), (-2, 0, -1), (0, -3, -1)], "must")
        # The very bank, and more of it by a hair.
        for corners in BANKS:
            self.assert_told(bank_sides(corners), "must", corners)
            for number in range(len(corners)):
                sides = [tuple(GREAT * part for part in side) for side in bank_sides(corners)]
                a, b, c = sides[number]
                sides[number] = (a, b, c + 1)
                self.assert_told(sides, "can", corners)
                sides[number] = (a, b, c - 1)
                self.assert_told(sides, "must", corners)

    def test_around(self):
        self.assert_told([(1, 0, 9), (-1, 0, 9), (0, 1, 9), (0, -1, 9)], "can")
        self.assert_told(round_water(40), "can")
        self.assert_told([(1, 0, 9), (-1, 0, 9), (0, 1, 9)], "can")

    def test_one_place(self):
        for x, y in itertools.product(range(-2, 7), repeat=2):
            within = 0 <= x <= 4 and 0 <= y <= 4
            self.assert_told(sides_through((x, y, 1), QUARTERS), "must" if within else "cannot")
            self.assert_told(sides_through((x, y, 1), ((1, 1), (-2, 1), (1, -2))), "must" if within else "cannot")

    def test_one_line(self):
        for c, word in ((-1, "cannot"), (0, "can"), (1, "can"), (4, "can"), (5, "cannot")):
            self.assert_told([(1, 0, c), (-1, 0, -c)], word)
            self.assert_told([(0, 1, c), (0, -1, -c)], word)
            self.assert_told([(1, 1, 2 * c), (-1, -1, -2 * c)], word)
            stretch_word = "must" if word == "can" else word
            self.assert_told([(1, 0, c), (-1, 0, -c), (0, 1, 3), (0, -1, -2)], stretch_word)

    def test_beside(self):
        told = self.assert_told([(1, 0, -1)], "cannot")
        self.assertEqual((told[1][0] > 0, told[1][1]), (True, 0))
        self.assert_told([(-3, 0, -13)], "cannot")
        self.assert_told([(0, 7, -1), (1, 0, 3)], "cannot")
        self.assert_told([(1, 0, -1), (-1, 0, 4), (0, 1, 3), (0, -1, 0)], "cannot")
        # No side of the water alone parts the two, but two together do.
        self.assert_told([(-2, 1, -7), (-2, -1, -10)], "cannot")
        self.assert_told([(-1, 3, -1), (3, -1, -1)], "cannot")

    def test_open_water(self):
        self.assert_told([(1, 0, 3)], "can")
        self.assert_told([(-1, 0, 90)], "can")
        self.assert_told([(1, 0, 3), (-1, 0, -1)], "can")
        self.assert_told([(0, 1, 3), (0, -1, -1), (-1, 0, 100)], "can")
        self.assert_told([(0, 1, 3), (0, -1, -1), (-1, 0, -1)], "can")
        self.assert_told([(1, 0, 2), (-1, 0, -2), (0, 1, 2)], "can")

    def test_all_about(self):
        words = set()
        for corners in BANKS:
            for name, sides in WATERS.items():
                with self.subTest(name, corners=corners):
                    words.add(self.assert_word(sides, corners)[0])
        self.assertEqual(words, {"none", "cannot", "must", "can"})
        for number, sides in enumerate(itertools.chain(small_waters(1200, 32), great_waters(90, 33))):
            corners = BANKS[number % len(BANKS)]
            with self.subTest(sides=sides, corners=corners):
                self.assert_word(sides, corners)

    def test_as_many_sides_as_there_can_be(self):
        for count in (40, 48, 60):
            sides = round_water(count, 10 ** 9)
            small = [(0, 0), (3, 0), (0, 3)]
            great = [(-45, -45), (45, -45), (45, 45), (-45, 45)]
            self.assert_told(sides, "can", small)
            self.assert_told(sides, "can", EIGHT)
            self.assert_told(sides, "must", great)
            self.assert_told(sides, "cannot", [(x + 8, y) for x, y in small])
            self.assert_told(sides, "cannot", [(x - 8, y + 8) for x, y in small])
            self.assert_told(sides + [(1, 1, -11)], "none", EIGHT)


class HandedListsTest(ExactCase):
    def test_nothing_is_changed_or_kept(self):
        for count in range(13):
            self.assert_new_lists(is_bank, ROUND[:count])
        for corners in BANKS:
            self.assert_new_lists(bank_sides, list(corners))
            for sides in [bank_sides(corners), []] + list(WATERS.values()):
                self.assert_new_lists(bank_word, list(sides), list(corners))


if __name__ == "__main__":
    unittest.main()
