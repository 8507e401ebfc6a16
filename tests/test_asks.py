"""Points 1, 18, 19, 20 and 23: what is asked of a book."""

import itertools
import random
import unittest
from math import gcd

from exact import FAIRWAY, ExactCase, all_answers, answers, book_of, has_place, in_all, kept, voyage
from seamarks import asks, errors
from seamarks.banks import bank_word
from seamarks.book import Book
from seamarks.reach import clash, reach
from seamarks.trust import choices
from seamarks.water import area, corners, ways

OF_A_MOMENT = {
    "note_sides": (), "note_groups": (), "book_corners": (), "book_area": (), "book_ways": (),
    "book_reach": ((2, -1),), "book_bank": ("sand",),
}
# South of cid, then east of ann and west of bob, which cannot both be.
AT_ODDS = (
    ("mark", "ann", 10, 0), ("mark", "bob", -10, 0), ("mark", "cid", 0, 50),
    ("bearing", 0, "cid", (1, 1), (-1, 1)),
    ("bearing", 0, "ann", (-1, 1), (-1, -1)),
    ("bearing", 0, "bob", (1, -1), (1, 1)),
)


def whole_way(book, one, other):
    """Moment by moment, with the runs or against them."""
    x, y = 0, 0
    while one < other:
        x, y, one = x + book.runs()[one][0], y + book.runs()[one][1], one + 1
    while one > other:
        x, y, one = x - book.runs()[one - 1][0], y - book.runs()[one - 1][1], one - 1
    return (x, y)


def expected_groups(book, moment):
    """By point 20's own sums."""
    places = {name: (x, y) for name, x, y in book.marks()}
    told = []
    for number, note in book.notes():
        x, y = places[note[-1]] if note[0] == "range" else places[note[2]]
        if note[0] == "bearing":
            (a, b), (c, d) = note[3:]
            sides = [(-b, a, a * y - b * x), (d, -c, d * x - c * y)]
        else:
            p, q = places[note[2]]
            sides = [(q - y, x - p, x * q - y * p)]
        e, f = whole_way(book, note[1], moment)
        sides = [(a, b, c + a * e + b * f) for a, b, c in sides]
        told.append([tuple(number // gcd(*side) for number in side) for side in sides])
    return told


def sees(book, moment, note, ship):
    """Whether the note is true of a ship that is there at the moment, by point 19's words."""
    e, f = whole_way(book, moment, note[1])
    x, y = ship[0] + e, ship[1] + f
    places = {name: (east - x, north - y) for name, east, north in book.marks()}
    turn = lambda one, other: one[0] * other[1] - one[1] * other[0]
    if note[0] == "range":
        return turn(places[note[3]], places[note[2]]) >= 0
    sight, (one, other) = places[note[2]], note[3:]
    same = lambda way: turn(way, sight) == 0 and way[0] * sight[0] + way[1] * sight[1] > 0
    return sight == (0, 0) or same(one) or same(other) or turn(one, sight) > 0 and turn(sight, other) > 0


def voyages(count, seed, **more):
    chance = random.Random(seed)
    for _ in range(count):
        book = book_of(voyage(chance, **more))
        # So that the numbers have gaps.
        for number, note in book.notes():
            if chance.random() < 0.2:
                book.strike(number)
        yield book


class AsksCase(ExactCase):
    def assert_no_moment(self, action, *handed):
        with self.assertRaises(errors.MarkError) as caught:
            action(*handed)
        self.assertIs(type(caught.exception), errors.NoMoment)


class WayBetweenTest(AsksCase):
    book = book_of([("sail", 3, -1), ("sail", -2, 5), ("sail", 1000, -1000), ("sail", 0, 7)])

    def test_forward_and_back(self):
        self.assertEqual(asks.way_between(self.book, 0, 1), (3, -1))
        self.assertEqual(asks.way_between(self.book, 1, 0), (-3, 1))
        self.assertEqual(asks.way_between(self.book, 1, 2), (-2, 5))
        self.assertEqual(asks.way_between(self.book, 0, 4), (1001, -989))
        self.assertEqual(asks.way_between(self.book, 4, 0), (-1001, 989))
        self.assertEqual(asks.way_between(self.book, 4, 2), (-1000, 993))
        for one, other in itertools.product(range(5), repeat=2):
            told = asks.way_between(self.book, one, other)
            self.assert_whole(told, 2)
            self.assertEqual(told, whole_way(self.book, one, other))

    def test_no_way(self):
        for moment in range(5):
            self.assertEqual(asks.way_between(self.book, moment, moment), (0, 0))
        self.assertEqual(asks.way_between(Book(), 0, 0), (0, 0))

    def test_no_moment(self):
        for bad in (-1, -2, -5, 5, 6, 10 ** 20):
            for good in (0, 2, 4):
                self.assert_no_moment(asks.way_between, self.book, bad, good)
                self.assert_no_moment(asks.way_between, self.book, good, bad)
            self.assert_no_moment(asks.way_between, self.book, bad, bad)
        self.assert_no_moment(asks.way_between, Book(), 0, 1)
        self.assert_no_moment(asks.way_between, Book(), 1, 0)


class NoteSidesTest(AsksCase):
    def test_fairway(self):
        book = book_of(FAIRWAY)
        for moment, groups in enumerate((
            [[(1, 1, 10), (1, -1, 10)], [(1, 1, 8)], [(0, -1, 9), (-1, 0, 11)]],
            [[(1, 1, 12), (1, -1, 14)], [(1, 1, 10)], [(0, -1, 10), (-1, 0, 8)]],
            [[(1, 1, 15), (1, -1, 7)], [(1, 1, 13)], [(0, -1, 5), (-1, 0, 10)]],
        )):
            self.assertEqual(asks.note_groups(book, moment), groups)
        self.assertEqual(asks.note_sides(book, 1), [(1, 1, 12), (1, -1, 14), (1, 1, 10), (0, -1, 10), (-1, 0, 8)])

    def test_plain(self):
        book = book_of([("mark", "ann", 4, 6), ("mark", "bob", 0, 2), ("sail", 1, 0),
                        ("bearing", 0, "ann", (10, 0), (0, 100)), ("range", 1, "ann", "bob")])
        self.assertEqual(asks.note_groups(book, 0), [[(0, 1, 6), (1, 0, 4)], [(1, -1, -3)]])
        self.assertEqual(asks.note_groups(book, 1), [[(0, 1, 6), (1, 0, 5)], [(1, -1, -2)]])

    def test_point_20(self):
        for book in voyages(150, 61):
            for moment in range(len(book.runs()) + 1):
                expected = expected_groups(book, moment)
                told = asks.note_groups(book, moment)
                self.assertEqual(told, expected)
                self.assertEqual(asks.note_sides(book, moment), [side for group in expected for side in group])
                for group in told:
                    self.assertIs(type(group), list)
                    for side in group:
                        self.assert_whole(side, 3)

    def test_point_19(self):
        for book in voyages(12, 62):
            moments = range(len(book.runs()) + 1)
            for moment in moments:
                groups = asks.note_groups(book, moment)
                for ship in itertools.product(range(-24, 25, 3), repeat=2):
                    told = [in_all(group, ship + (1,)) for group in groups]
                    self.assertEqual(told, [sees(book, moment, note, ship) for number, note in book.notes()])

    def test_by_rising_numbers(self):
        book = book_of(FAIRWAY + (("strike", 2), ("range", 0, "bob", "ann"), ("strike", 1)))
        self.assertEqual([number for number, note in book.notes()], [3, 4])
        self.assertEqual(asks.note_groups(book, 2), [[(0, -1, 5), (-1, 0, 10)], [(1, 1, 15)]])

    def test_at_the_bounds(self):
        deeds = [("mark", "ann", 1000, -1000), ("mark", "bob", -1000, 1000)]
        deeds += [("sail", 1000, -1000)] * 12
        deeds += [("bearing", moment, "ann", (100, 99), (99, 100)) for moment in range(12)]
        deeds += [("range", moment, "bob", "ann") for moment in range(1, 13)]
        book = book_of(deeds)
        for moment in (0, 6, 12):
            self.assertEqual(asks.note_groups(book, moment), expected_groups(book, moment))
            answers(book, moment)


class NoMomentTest(AsksCase):
    def test_below_nought_and_beyond(self):
        for book in (book_of(FAIRWAY), book_of(FAIRWAY[:6])):
            for name, more in OF_A_MOMENT.items():
                for moment in (-1, -2, -3, 3, 4, 10 ** 20):
                    with self.subTest(name=name, moment=moment):
                        self.assert_no_moment(getattr(asks, name), book, moment, *more)
                getattr(asks, name)(book, 2, *more)

    def test_the_empty_book(self):
        for name, more in OF_A_MOMENT.items():
            for moment in (-1, 1):
                self.assert_no_moment(getattr(asks, name), Book(), moment, *more)

    def test_no_bank_comes_behind(self):
        book = book_of(FAIRWAY)
        for moment in (-1, 3):
            for name in ("rock", "ann", ""):
                self.assert_no_moment(asks.book_bank, book, moment, name)
        for name in ("rock", "ann", "", "Sand"):
            with self.assertRaises(errors.MarkError) as caught:
                asks.book_bank(book, 2, name)
            self.assertIs(type(caught.exception), errors.NoBank)
        book.level("sand")
        self.assertRaises(errors.NoBank, asks.book_bank, book, 0, "sand")
        book.undo()
        asks.book_bank(book, 0, "sand")

    def test_behind_an_undoing(self):
        book = book_of(FAIRWAY[:6])
        asks.note_sides(book, 2)
        book.undo()
        self.assert_no_moment(asks.note_sides, book, 2)
        book.redo()
        asks.note_sides(book, 2)


class BookAsksTest(AsksCase):
    def test_without_notes(self):
        for book in (Book(), book_of([("sail", 1, 1), ("bank", "sand", FAIRWAY[3][2])]),
                     book_of(FAIRWAY + (("strike", 1), ("strike", 2), ("strike", 3)))):
            for moment in range(len(book.runs()) + 1):
                self.assertEqual(asks.note_sides(book, moment), [])
                self.assertEqual(asks.note_groups(book, moment), [])
                self.assertEqual(asks.book_corners(book, moment), [])
                self.assertIsNone(asks.book_area(book, moment))
                self.assertEqual(asks.book_ways(book, moment), [])
                self.assertEqual(asks.book_reach(book, moment, (0, -4))[0], "open")
                for name, told in book.banks():
                    self.assertEqual(asks.book_bank(book, moment, name)[0], "can")
            self.assertIsNone(asks.book_clash(book))
            self.assertEqual(asks.book_choices(book), [[]])

    def test_fairway(self):
        book = book_of(FAIRWAY)
        self.assertEqual(asks.book_corners(book, 0), [(-11, -9, 1), (-11, 19, 1), (1, -9, 1), (9, -1, 1)])
        self.assertEqual(asks.book_corners(book, 1), [(-8, -10, 1), (-8, 18, 1), (4, -10, 1), (12, -2, 1)])
        self.assertEqual(asks.book_corners(book, 2), [(-10, -5, 1), (-10, 23, 1), (2, -5, 1), (10, 3, 1)])
        self.assertEqual(asks.book_area(book, 2), (328, 1))
        self.assertEqual(asks.book_ways(book, 2), [])
        self.assertEqual(asks.book_reach(book, 2, (1, 0))[:2], ("far", (10, 3, 1)))
        self.assertEqual(asks.book_bank(book, 2, "sand")[0], "can")
        self.assertIsNone(asks.book_clash(book))
        self.assertEqual(asks.book_choices(book), [[]])

    def test_as_the_functions_for_these_sides(self):
        found = set()
        for book in voyages(150, 63, wrong=0.3):
            for moment in range(len(book.runs()) + 1):
                groups = expected_groups(book, moment)
                sides = [side for group in groups for side in group]
                self.assertEqual(asks.book_corners(book, moment), corners(sides))
                self.assertEqual(asks.book_area(book, moment), area(sides))
                self.assertEqual(asks.book_ways(book, moment), ways(sides))
                for direction in ((1, 0), (3, -7), (0, 1)):
                    self.assertEqual(asks.book_reach(book, moment, direction), reach(sides, direction))
                for name, ring in book.banks():
                    self.assertEqual(asks.book_bank(book, moment, name), bank_word(sides, list(ring)))
                    found.add(asks.book_bank(book, moment, name)[0])
        self.assertEqual(found, {"none", "can", "cannot", "must"})

    def test_each_bank_by_its_name(self):
        book = book_of(FAIRWAY + (("bank", "rock", ((900, 900), (901, 900), (900, 901))),))
        self.assertEqual(asks.book_bank(book, 1, "sand")[0], "can")
        self.assertEqual(asks.book_bank(book, 1, "rock")[0], "cannot")


class BookClashAndChoicesTest(AsksCase):
    def test_at_odds(self):
        book = book_of(AT_ODDS[:5])
        self.assertIsNone(asks.book_clash(book))
        self.assertEqual(asks.book_choices(book), [[]])
        book.deed(AT_ODDS[5])
        self.assertEqual(asks.book_clash(book), [2, 3])
        self.assertEqual(asks.book_choices(book), [[2], [3]])
        book.sail(-50, 0)
        self.assertEqual(asks.book_clash(book), [2, 3])
        # Seen one run later it is no odds any more.
        book.strike(3)
        book.bearing(1, "bob", (1, -1), (1, 1))
        self.assertIsNone(asks.book_clash(book))
        self.assertEqual(asks.book_choices(book), [[]])
        book.right(0, -5, 0)
        self.assertEqual(asks.book_clash(book), [2, 4])
        self.assertEqual(asks.book_choices(book), [[2], [4]])

    def test_numbers_with_gaps(self):
        book = book_of(AT_ODDS[:4] + AT_ODDS[4:5] * 4 + AT_ODDS[5:] * 2)
        for number in (1, 2, 3, 4, 6):
            book.strike(number)
        self.assertEqual([number for number, note in book.notes()], [5, 7])
        self.assertEqual(asks.book_clash(book), [5, 7])
        self.assertEqual(asks.book_choices(book), [[5], [7]])

    def test_one_note_twice_in_a_clash(self):
        # South of ann by both of the bearing's sides, and north of bob and cid.
        book = book_of([("mark", "ann", 0, 0), ("mark", "bob", 0, 9), ("mark", "cid", 1, 9),
                        ("range", 0, "bob", "cid"), ("strike", 1),
                        ("bearing", 0, "ann", (1, 1), (-1, 1)), ("range", 0, "cid", "bob")])
        sides = asks.note_sides(book, 0)
        self.assertEqual(sides, [(-1, 1, 0), (1, 1, 0), (0, -1, -9)])
        self.assertEqual([number for number, weight in clash(sides)], [0, 1, 2])
        self.assertEqual(asks.book_clash(book), [2, 3])
        self.assertEqual(asks.book_choices(book), [[2], [3]])

    def test_all_about(self):
        lengths = set()
        for book in voyages(250, 64, wrong=0.3):
            notes = dict(book.notes())
            groups = dict(zip(notes, expected_groups(book, 0)))
            told = asks.book_clash(book)
            sides = [side for group in groups.values() for side in group]
            self.assertEqual(told is None, has_place(sides))
            if told is not None:
                self.assertIs(type(told), list)
                self.assertEqual(told, sorted(set(told)))
                self.assertTrue(set(told) <= set(notes))
                self.assertFalse(has_place([side for number in told for side in groups[number]]))
                lengths.add(len(told))
            self.assert_choices(book, groups)
        self.assertTrue({2, 3} <= lengths, lengths)

    def assert_choices(self, book, groups):
        told = asks.book_choices(book)
        self.assertEqual(told, sorted(told))
        expected = choices(list(groups.values()))
        self.assertEqual(told, [[list(groups)[at] for at in choice] for choice in expected])
        for choice in told:
            self.assertIs(type(choice), list)
            rest = [side for number in groups if number not in choice for side in groups[number]]
            self.assertTrue(has_place(rest))


class ToldListsTest(AsksCase):
    def test_nothing_is_changed_or_kept(self):
        for book in list(voyages(12, 65, wrong=0.3)) + [book_of(FAIRWAY), book_of(AT_ODDS)]:
            before = kept(book)
            for name, more in OF_A_MOMENT.items():
                if name != "book_bank" or book.banks():
                    self.assert_new_lists(lambda *handed: getattr(asks, name)(book, 0, *handed), *more)
            for name in ("book_clash", "book_choices"):
                self.assert_new_lists(lambda: getattr(asks, name)(book))
            self.assertEqual(kept(book), before)
            self.assertEqual(all_answers(book), all_answers(book_of(book.deeds())))

    def test_the_same_behind_each_deed(self):
        deeds = FAIRWAY + (
            ("move", "bob", 1, 11), ("right", 1, 4, 4), ("strike", 2), ("unmark", "bob"), ("level", "sand"),
            ("mark", "bob", 5, 6), ("range", 2, "ann", "bob"), ("bank", "sand", ((0, 0), (9, 0), (0, 4))),
            ("sail", 0, 7), ("bearing", 3, "bob", (0, 1), (-1, 0)), ("move", "cid", -9, -9),
        )
        book = Book()
        seen = []
        for at, deed in enumerate(deeds):
            all_answers(book)
            book.deed(deed)
            seen.append(all_answers(book))
            # A book that was never asked before, and one that was asked, undone and done again.
            self.assertEqual(seen[at], all_answers(book_of(deeds[:at + 1])))
            book.undo()
            self.assertEqual(all_answers(book), seen[at - 1] if at else all_answers(Book()))
            book.redo()
            self.assertEqual(all_answers(book), seen[at])
        self.assertGreater(len({str(told) for told in seen}), 10)


if __name__ == "__main__":
    unittest.main()
