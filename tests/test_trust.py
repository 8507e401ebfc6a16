"""Points 1 and 13: what must be disbelieved."""

import itertools
import random
import unittest

from exact import ExactCase, GREAT, has_place, in_all, round_water, sides_through
from seamarks.trust import choices, trusted

# Three of which each two have places in common, but no place is in all.
APART = [[(-1, 0, 0)], [(0, -1, 0)], [(1, 1, -1)]]
EAST = [(-1, 0, -5)]
WEST = [(1, 0, 5)]
FAR_WEST = [(1, 0, -5)]
QUARTERS = ((1, 0), (0, 1), (-1, 0), (0, -1))


def expected_choices(groups):
    """Leaves out none, one, two .. of the groups in every way, till the rest have a place in common."""
    for count in range(len(groups) + 1):
        found = []
        for left_out in itertools.combinations(range(len(groups)), count):
            rest = [side for number, group in enumerate(groups) if number not in left_out for side in group]
            if has_place(rest):
                found.append(list(left_out))
        if found:
            return found


def box(x, y):
    """A group of two sides and one of two more, which have the place (x, y) alone in common."""
    sides = sides_through((x, y, 1), QUARTERS)
    return [sides[:2], sides[2:]]


def small_groups(count, seed):
    chance = random.Random(seed)

    def side():
        a, b = chance.choice([pair for pair in itertools.product(range(-2, 3), repeat=2) if pair != (0, 0)])
        return (a, b, chance.randint(-5, 3))

    for number in range(count):
        yield [[side() for _ in range(chance.choice((1, 2, 2)))] for _ in range(number % 8)]


class TrustCase(ExactCase):
    def assert_trusted(self, groups):
        told = trusted(groups)
        self.assertIs(type(told), tuple)
        self.assertEqual(len(told), 2)
        self.assert_lowest(told[0], 3)
        self.assertIs(type(told[1]), list)
        self.assertEqual([type(number) for number in told[1]], [int] * len(told[1]))
        doubts = [number for number, group in enumerate(groups) if not in_all(group, told[0])]
        self.assertEqual(told[1], doubts)
        self.assertIn(told[1], choices(groups))

    def assert_choices(self, groups, expected):
        told = choices(groups)
        self.assertEqual(told, expected)
        self.assertIs(type(told), list)
        for choice in told:
            self.assertIs(type(choice), list)
            self.assertEqual([type(number) for number in choice], [int] * len(choice))
        self.assert_trusted(groups)


class ChoicesAndTrustedTest(TrustCase):
    def test_no_group(self):
        self.assert_choices([], [[]])

    def test_a_place_in_common(self):
        self.assert_choices([[(1, 0, -7)]], [[]])
        self.assert_choices([[(1, 0, -7), (-1, 0, 9)]], [[]])
        self.assert_choices([EAST, EAST, EAST], [[]])
        self.assert_choices([WEST, FAR_WEST], [[]])
        # On a line, and at one place, alone.
        self.assert_choices([EAST, WEST], [[]])
        self.assert_choices(box(7, -3), [[]])
        self.assert_choices(box(GREAT, 1) + [[(1, -GREAT, 0)]], [[]])
        self.assert_choices([[side] for side in round_water(24)], [[]])

    def test_two_by_two(self):
        self.assert_choices([EAST, FAR_WEST], [[0], [1]])
        self.assert_choices([EAST, FAR_WEST, EAST], [[1]])
        self.assert_choices([EAST, WEST, FAR_WEST], [[0], [2]])
        self.assert_choices([FAR_WEST, EAST, EAST, FAR_WEST], [[0, 3], [1, 2]])
        self.assert_choices(box(0, 0) + box(3, 0), [[0], [3]])
        self.assert_choices(box(0, 0) + box(3, -2), [[0, 1], [0, 2], [1, 3], [2, 3]])

    def test_three_by_three(self):
        self.assert_choices(APART, [[0], [1], [2]])
        self.assert_choices(APART + [[(1, 0, 9), (0, 1, 9)]], [[0], [1], [2]])
        self.assert_choices(APART + APART, [[0, 3], [1, 4], [2, 5]])
        self.assert_choices(APART + APART[:1], [[1], [2]])

    def test_a_group_without_a_place(self):
        nothing = [(1, 0, 0), (-1, 0, -1)]
        self.assert_choices([nothing], [[0]])
        self.assert_choices([nothing, nothing], [[0, 1]])
        self.assert_choices([EAST, nothing, WEST], [[1]])
        self.assert_choices([EAST, nothing, FAR_WEST], [[0, 1], [1, 2]])

    def test_groups_that_touch(self):
        self.assert_choices([[(1, 0, 0), (-1, 0, 4)], [(1, 0, 4), (-1, 0, 0)], [(1, 0, 9), (-1, 0, -1)]], [[0], [2]])
        self.assert_choices([[(3, 1, 2), (-1, 0, -1)], [(0, -1, 1), (-1, 0, -1)], [(-3, -1, -2)]], [[]])
        self.assert_choices([[(3, 1, 2), (-1, 0, -1)], [(0, -1, 1), (-1, 0, -1)], [(-3, -1, -3)]], [[0], [2]])

    def test_only_beside_one_another(self):
        groups = [[(2, 4, -6)], [(-1, -2, 2)], [(-3, -6, -9)], [(1, 2, 2), (-1, -2, 5)]]
        self.assert_choices(groups, expected_choices(groups))

    def test_rising_as_lists_rise(self):
        groups = [[(1, 0, -k), (-1, 0, k)] for k in range(12)]
        expected = [[number for number in range(12) if number != k] for k in range(12)]
        self.assert_choices(groups, sorted(expected))

    def test_all_about(self):
        lengths = set()
        for groups in small_groups(400, 21):
            with self.subTest(groups=groups):
                expected = expected_choices(groups)
                self.assert_choices(groups, expected)
                lengths.add((len(expected[0]), len(expected) > 1))
        self.assertTrue({(0, False), (1, False), (1, True), (2, True)} <= lengths)

    def test_as_many_groups_as_there_can_be(self):
        chance = random.Random(22)
        for left in (0, 1, 2):
            sides = round_water(48)
            groups = [sides[2 * number:2 * number + 2] for number in range(24)]
            for number in chance.sample(range(24), left):
                groups[number] = [(-a, -b, -2 * c) for a, b, c in groups[number]]
            expected = expected_choices(groups)
            self.assertEqual(len(expected[0]), left)
            self.assert_choices(groups, expected)

    def test_somewhat_beyond_the_bounds(self):
        groups = [[(1, 0, k), (-1, 0, 1 - k), (0, 1, k)] for k in range(30)]
        expected = [[number for number in range(30) if number not in (k, k + 1)] for k in range(29)]
        self.assert_choices(groups, sorted(expected))


class HandedListsTest(TrustCase):
    def test_nothing_is_changed_or_kept(self):
        for groups in list(small_groups(80, 23)) + [[], APART, APART + APART, box(1, 2)]:
            with self.subTest(groups=groups):
                self.assert_new_lists(choices, [list(group) for group in groups])
                self.assert_new_lists(trusted, [list(group) for group in groups])


if __name__ == "__main__":
    unittest.main()
