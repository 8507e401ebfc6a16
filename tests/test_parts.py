"""Points 1, 2 and 3: parts and spots."""

import itertools
import math
import unittest
from fractions import Fraction

from exact import MILLION_MILLIONS, ExactCase, place
from seamarks.parts import ahead, below, in_order, part, plus, spot, times

NUMBERS = (
    0, 1, -1, 2, -2, 3, 4, -6, 12, 35, -64, 999, 1000, 123456,
    2 ** 39, 3 ** 25, -(2 ** 20 * 3 ** 12), 999999999989, -MILLION_MILLIONS, MILLION_MILLIONS,
)
SMALL_PARTS = [part(top, bottom) for top in range(-6, 7) for bottom in range(1, 7)]
GREAT_PARTS = [
    part(top, bottom) for top in NUMBERS for bottom in (1, 7, 2 ** 38, 999999999989, MILLION_MILLIONS)
]


def worth(pair):
    return Fraction(pair[0], pair[1])


class LowestCase(ExactCase):
    def assert_part(self, told, asked):
        self.assert_whole(told, 2)
        self.assertGreaterEqual(told[1], 1)
        self.assertEqual(math.gcd(told[0], told[1]), 1)
        self.assertEqual(worth(told), asked)

    def assert_spot(self, told, asked):
        self.assert_whole(told, 3)
        self.assertGreaterEqual(told[2], 1)
        self.assertEqual(math.gcd(*told), 1)
        self.assertEqual(place(told), asked)


class PartTest(LowestCase):
    def test_written_out(self):
        self.assertEqual(part(6, 4), (3, 2))
        self.assertEqual(part(-6, 4), (-3, 2))
        self.assertEqual(part(6, -4), (-3, 2))
        self.assertEqual(part(-6, -4), (3, 2))
        self.assertEqual(part(5, 1), (5, 1))
        self.assertEqual(part(5, -1), (-5, 1))
        self.assertEqual(part(8, 4), (2, 1))
        self.assertEqual(part(3, 7), (3, 7))

    def test_nought_has_one_form(self):
        for bottom in NUMBERS:
            if bottom != 0:
                self.assertEqual(part(0, bottom), (0, 1))
                self.assert_whole(part(0, bottom), 2)

    def test_lowest_terms_worth_the_same(self):
        for top, bottom in itertools.product(NUMBERS, NUMBERS):
            if bottom != 0:
                with self.subTest(top=top, bottom=bottom):
                    self.assert_part(part(top, bottom), Fraction(top, bottom))

    def test_a_factor_in_common(self):
        for factor in (2, 3, 97, 1000003, 2 ** 30):
            for top, bottom in ((1, 2), (-5, 3), (7, 1), (10, 9)):
                self.assertEqual(part(top * factor, bottom * factor), (top, bottom))
                self.assertEqual(part(top * factor, -bottom * factor), (-top, bottom))

    def test_small_numbers(self):
        for top, bottom in itertools.product(range(-12, 13), range(-12, 13)):
            if bottom != 0:
                self.assert_part(part(top, bottom), Fraction(top, bottom))


class PlusAndTimesTest(LowestCase):
    def test_written_out(self):
        self.assertEqual(plus((1, 6), (1, 3)), (1, 2))
        self.assertEqual(plus((1, 2), (-1, 2)), (0, 1))
        self.assertEqual(plus((-3, 4), (0, 1)), (-3, 4))
        self.assertEqual(times((2, 3), (3, 4)), (1, 2))
        self.assertEqual(times((-2, 3), (-3, 2)), (1, 1))
        self.assertEqual(times((0, 1), (-5, 7)), (0, 1))

    def test_small_parts(self):
        for one, other in itertools.product(SMALL_PARTS, SMALL_PARTS):
            self.assert_part(plus(one, other), worth(one) + worth(other))
            self.assert_part(times(one, other), worth(one) * worth(other))

    def test_great_parts(self):
        for one, other in itertools.product(GREAT_PARTS, GREAT_PARTS):
            self.assert_part(plus(one, other), worth(one) + worth(other))
            self.assert_part(times(one, other), worth(one) * worth(other))


class BelowTest(unittest.TestCase):
    def test_written_out(self):
        self.assertIs(below((1, 3), (1, 2)), True)
        self.assertIs(below((1, 2), (1, 3)), False)
        self.assertIs(below((-1, 2), (-1, 3)), True)
        self.assertIs(below((-1, 3), (-1, 2)), False)

    def test_alike(self):
        for one in SMALL_PARTS + GREAT_PARTS:
            self.assertIs(below(one, one), False)

    def test_contrary(self):
        for one in SMALL_PARTS + GREAT_PARTS:
            contrary = (-one[0], one[1])
            self.assertIs(below(one, contrary), one[0] < 0)
            self.assertIs(below(contrary, one), one[0] > 0)

    def test_near_one_another(self):
        less = (MILLION_MILLIONS - 1, MILLION_MILLIONS)
        more = (MILLION_MILLIONS, MILLION_MILLIONS + 1)
        self.assertIs(below(less, more), True)
        self.assertIs(below(more, less), False)
        self.assertIs(below((-more[0], more[1]), (-less[0], less[1])), True)
        self.assertIs(below((-less[0], less[1]), (-more[0], more[1])), False)

    def test_either_way_about(self):
        for one, other in itertools.product(SMALL_PARTS + GREAT_PARTS, SMALL_PARTS):
            self.assertIs(below(one, other), worth(one) < worth(other))
            self.assertIs(below(other, one), worth(other) < worth(one))


class SpotTest(LowestCase):
    def test_written_out(self):
        self.assertEqual(spot(2, 4, 6), (1, 2, 3))
        self.assertEqual(spot(2, 4, -6), (-1, -2, 3))
        self.assertEqual(spot(-2, 4, -6), (1, -2, 3))
        self.assertEqual(spot(3, -4, 1), (3, -4, 1))
        self.assertEqual(spot(3, -4, -1), (-3, 4, 1))

    def test_only_a_factor_of_all_three_goes(self):
        self.assertEqual(spot(2, 4, 3), (2, 4, 3))
        self.assertEqual(spot(6, 10, 15), (6, 10, 15))
        self.assertEqual(spot(6, 5, 4), (6, 5, 4))
        self.assertEqual(spot(5, 6, 4), (5, 6, 4))

    def test_on_an_axis_and_at_nought(self):
        self.assertEqual(spot(0, 6, 4), (0, 3, 2))
        self.assertEqual(spot(6, 0, 4), (3, 0, 2))
        self.assertEqual(spot(0, 6, -4), (0, -3, 2))
        self.assertEqual(spot(6, 0, -4), (-3, 0, 2))
        for w in NUMBERS:
            if w != 0:
                self.assertEqual(spot(0, 0, w), (0, 0, 1))

    def test_lowest_terms_at_the_same_place(self):
        for x, y, w in itertools.product(NUMBERS, NUMBERS, NUMBERS):
            if w != 0:
                self.assert_spot(spot(x, y, w), (Fraction(x, w), Fraction(y, w)))


SPOTS = [
    spot(x, y, w) for x in (-3, -1, 0, 1, 2) for y in (-2, 0, 1, 3) for w in (1, 2, 3, 5)
] + [
    spot(MILLION_MILLIONS, 1, MILLION_MILLIONS + 1), spot(MILLION_MILLIONS - 1, 1, MILLION_MILLIONS),
    spot(1, MILLION_MILLIONS, MILLION_MILLIONS + 1), spot(1, MILLION_MILLIONS - 1, MILLION_MILLIONS),
]


class AheadTest(unittest.TestCase):
    def test_by_x_first(self):
        self.assertIs(ahead((1, 9, 3), (1, 0, 2)), True)
        self.assertIs(ahead((1, 0, 2), (1, 9, 3)), False)
        self.assertIs(ahead((-1, 0, 2), (-1, 0, 3)), True)

    def test_by_y_where_x_is_the_same(self):
        self.assertIs(ahead((1, 1, 2), (2, 3, 4)), True)
        self.assertIs(ahead((2, 3, 4), (1, 1, 2)), False)
        self.assertIs(ahead((0, -1, 2), (0, -1, 3)), True)

    def test_not_by_the_triples_own_numbers(self):
        self.assertIs(ahead((3, 0, 4), (1, 0, 1)), True)
        self.assertIs(ahead((1, 0, 1), (3, 0, 4)), False)

    def test_either_way_about(self):
        for one, other in itertools.product(SPOTS, SPOTS):
            self.assertIs(ahead(one, other), place(one) < place(other))


class InOrderTest(unittest.TestCase):
    def test_none_and_one(self):
        self.assertEqual(in_order([]), [])
        self.assertEqual(in_order([(1, 2, 3)]), [(1, 2, 3)])

    def test_two_either_way_about(self):
        rising = [(1, 0, 3), (1, 0, 2)]
        self.assertEqual(in_order(rising), rising)
        self.assertEqual(in_order(rising[::-1]), rising)

    def test_every_arrangement_of_five(self):
        rising = [(-1, 5, 2), (0, -1, 3), (0, 1, 1), (2, 1, 3), (1, 0, 1)]
        for mixed in itertools.permutations(rising):
            self.assertEqual(in_order(list(mixed)), rising)

    def test_alike_as_often_as_they_stand_there(self):
        self.assertEqual(in_order([(1, 1, 1)] * 3), [(1, 1, 1)] * 3)
        mixed = [(1, 0, 2), (1, 0, 3), (1, 0, 2), (0, 0, 1), (1, 0, 3), (1, 0, 2)]
        rising = [(0, 0, 1), (1, 0, 3), (1, 0, 3), (1, 0, 2), (1, 0, 2), (1, 0, 2)]
        self.assertEqual(in_order(mixed), rising)

    def test_many(self):
        many = SPOTS + SPOTS[::-1] + SPOTS[::3]
        told = in_order(many)
        self.assertEqual(told, sorted(many, key=place))
        self.assertIs(type(told), list)
        self.assertEqual({type(one) for one in told}, {tuple})

    def test_thousands(self):
        many = [spot(number * 7919 % 3001, number * 104729 % 5003, number % 12 + 1) for number in range(3000)]
        self.assertEqual(in_order(many), sorted(many, key=place))

    def test_the_handed_list_stays_as_it_was(self):
        for handed in ([], [(1, 2, 3)], [(1, 0, 2), (1, 0, 3)], list(SPOTS)):
            before = list(handed)
            in_order(handed)
            self.assertEqual(handed, before)

    def test_the_told_list_is_a_new_one(self):
        for handed in ([], [(1, 2, 3)], [(1, 0, 3), (1, 0, 2)], [(1, 0, 2), (1, 0, 3), (0, 0, 1)]):
            before = list(handed)
            told = in_order(handed)
            asked = list(told)
            told.append((0, 0, 1))
            told[0] = (9, 9, 1)
            self.assertEqual(handed, before)
            self.assertEqual(in_order(handed), asked)

    def test_changing_the_handed_list_changes_no_told_one(self):
        for handed in ([(1, 2, 3)], [(1, 0, 3), (1, 0, 2)]):
            told = in_order(handed)
            asked = list(told)
            handed.clear()
            self.assertEqual(told, asked)


if __name__ == "__main__":
    unittest.main()
