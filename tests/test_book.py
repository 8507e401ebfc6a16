"""Points 1, 17, 18, 19, 21 and 22: the book, its deeds and their refusals, undone and done again."""

import copy
import random
import unittest

from exact import FAIRWAY, ExactCase, all_answers, book_of, by_method, kept, stands, voyage, wreck
from seamarks import errors
from seamarks.book import Book

TRIANGLE = ((0, 0), (4, 0), (0, 4))
EIGHT = ((2, 0), (4, 0), (6, 2), (6, 4), (4, 6), (2, 6), (0, 4), (0, 2))
NINE = ((0, 0), (10, 0), (18, 1), (25, 3), (31, 6), (36, 10), (40, 15), (43, 21), (45, 28))
# To the right instead of to the left.
TURNED = ((0, 0), (0, 4), (4, 0))
BAD_NAMES = ("", "abcdefghi", "Ann", "a b", "a1", "a-b", "ann\n", "{", "`", "ann.", " ann", "Z")
GOOD_NAMES = ("a", "z", "abcdefgh", "zzzzzzzz")
NOUGHT_OR_BEYOND = ((0, 0), (101, 0), (-101, 0), (0, 101), (0, -101), (101, -101), (1000, 1))
MANY = [(number * number, number) for number in range(30)]


def letters(number):
    return "m" + chr(ord("a") + number)


def marks_made(count):
    return [("mark", letters(number)) + MANY[number] for number in range(count)]


def banks_made(count):
    return [("bank", letters(number), TRIANGLE) for number in range(count)]


class Model:
    """The book by the words of points 17 to 22: what stands is found anew from the deeds, one after another."""

    limits = {"marks": 20, "banks": 8, "runs": 12, "notes": 24}

    def __init__(self, deeds=()):
        self.marks, self.banks, self.runs, self.notes, self.coming = {}, {}, [], {}, 1
        self.stood, self.waiting = [], []
        for deed in deeds:
            self.do(deed)

    def stands(self):
        return (sorted((name,) + place for name, place in self.marks.items()), sorted(self.banks.items()),
                list(self.runs), sorted(self.notes.items()), self.coming)

    def kept(self):
        return (self.stands(), list(self.stood), list(self.waiting))

    def back(self):
        deed = self.stood[-1]
        waiting = [deed] + self.waiting
        self.__init__(self.stood[:-1])
        self.waiting = waiting
        return deed

    def again(self):
        deed, *waiting = self.waiting
        self.do(deed)
        self.waiting = waiting
        return deed

    def refusals(self, deed):
        """Each refusal that a deed may have, in order, and whether it is due; lazily, as later ones lean on earlier."""
        word, values = deed[0], deed[1:]
        beyond = lambda numbers, most: any(abs(number) > most for number in numbers)
        name_is_bad = lambda name: not 1 <= len(name) <= 8 or set(name) - set("abcdefghijklmnopqrstuvwxyz")
        full = lambda kind: len(getattr(self, kind)) == self.limits[kind]
        if word == "mark":
            yield errors.BadName, name_is_bad(values[0])
            yield errors.Taken, values[0] in self.marks
            yield errors.BadPlace, beyond(values[1:], 1000)
            yield errors.Full, full("marks")
        if word == "move":
            yield errors.NoMark, values[0] not in self.marks
            yield errors.BadPlace, beyond(values[1:], 1000)
            after = {**self.marks, values[0]: values[1:]}
            ranges = [note for note in self.notes.values() if note[0] == "range"]
            yield errors.Same, any(after[note[2]] == after[note[3]] for note in ranges)
        if word == "unmark":
            yield errors.NoMark, values[0] not in self.marks
            told = [note[2:3] if note[0] == "bearing" else note[2:] for note in self.notes.values()]
            yield errors.Needed, any(values[0] in names for names in told)
        if word == "bank":
            yield errors.BadName, name_is_bad(values[0])
            yield errors.Taken, values[0] in self.banks
            yield errors.BadPlace, any(beyond(corner, 1000) for corner in values[1])
            yield errors.BadBank, not bank_by_turns(values[1])
            yield errors.Full, full("banks")
        if word == "level":
            yield errors.NoBank, values[0] not in self.banks
        if word == "sail":
            yield errors.BadRun, beyond(values, 1000)
            yield errors.Full, full("runs")
        if word == "right":
            yield errors.NoRun, values[0] not in range(len(self.runs))
            yield errors.BadRun, beyond(values[1:], 1000)
        if word == "bearing":
            yield errors.NoMoment, values[0] not in range(len(self.runs) + 1)
            yield errors.NoMark, values[1] not in self.marks
            for way in values[2:]:
                yield errors.BadWay, way == (0, 0) or beyond(way, 100)
            yield errors.BadTurn, values[2][0] * values[3][1] - values[2][1] * values[3][0] <= 0
            yield errors.Full, full("notes")
        if word == "range":
            yield errors.NoMoment, values[0] not in range(len(self.runs) + 1)
            yield errors.NoMark, values[1] not in self.marks or values[2] not in self.marks
            yield errors.Same, self.marks[values[1]] == self.marks[values[2]]
            yield errors.Full, full("notes")
        if word == "strike":
            yield errors.NoNote, values[0] not in self.notes

    def refusal(self, deed):
        return next((error for error, due in self.refusals(deed) if due), None)

    def do(self, deed):
        word, values = deed[0], deed[1:]
        told = None
        if word in ("mark", "move"):
            self.marks[values[0]] = values[1:]
        elif word == "unmark":
            del self.marks[values[0]]
        elif word == "bank":
            self.banks[values[0]] = values[1]
        elif word == "level":
            del self.banks[values[0]]
        elif word == "sail":
            self.runs.append(values)
        elif word == "right":
            self.runs[values[0]] = values[1:]
        elif word == "strike":
            del self.notes[values[0]]
        else:
            told = self.coming
            self.notes[told] = deed
            self.coming += 1
        self.stood.append(deed)
        self.waiting = []
        return told


def bank_by_turns(corners):
    count = len(corners)
    if not 3 <= count <= 8:
        return False
    for at, (x, y) in enumerate(corners):
        p, q = corners[(at + 1) % count]
        others = [corner for number, corner in enumerate(corners) if number not in (at, (at + 1) % count)]
        if any((p - x) * (s - y) - (q - y) * (r - x) <= 0 for r, s in others):
            return False
    return True


def any_deed(chance):
    """Any deed, refused or not, of few names and numbers, so that they often meet."""
    name = lambda: chance.choice(("ann", "bob", "cid", "Dan") + (letters(chance.randrange(26)),) * 4)
    number = lambda: chance.choice((0, 1, 2, 3, -1, 1000, -1000, 1001, -1001))
    turned = lambda: chance.choice((0, 1, 2, -1, -2, 100, -100, 101, -101, 3, 4, 5))
    moment = lambda: chance.choice((0, 0, 0, 1, 2, 5, 11, 12, 13, -1))
    word = chance.choice(("move", "unmark", "bank", "bank", "level", "sail", "right", "strike")
                         + ("mark", "bearing", "range") * 3)
    corners = chance.choice((TRIANGLE, EIGHT, EIGHT, NINE, TURNED, TRIANGLE[:2], (), TRIANGLE[:2] + ((0, 1001),)))
    return (word,) + {
        "mark": lambda: (name(), number(), number()),
        "move": lambda: (name(), number(), number()),
        "unmark": lambda: (name(),),
        "bank": lambda: (name(), corners),
        "level": lambda: (name(),),
        "sail": lambda: (number(), number()),
        "right": lambda: (moment(), number(), number()),
        "strike": lambda: (chance.randint(-1, 60),),
        "bearing": lambda: (moment(), name(), (turned(), turned()), (turned(), turned())),
        "range": lambda: (moment(), name(), name()),
    }[word]()


class BookCase(ExactCase):
    def assert_does(self, deeds, deed, told=None):
        """By its method and by deed: what is told, and that the deed stands behind the others."""
        for do in (by_method, Book.deed):
            book = book_of(deeds)
            before = book.deeds()
            answer = do(book, deed)
            self.assertEqual(answer, told, deed)
            self.assertIs(type(answer), type(told), deed)
            self.assertEqual(book.deeds(), before + [deed])
            self.assertEqual(stands(book), Model(book.deeds()).stands())
        return book

    def assert_refused(self, deeds, deed, error):
        for do in (by_method, Book.deed):
            book = book_of(deeds)
            # What can be done again is to stay so, too.
            waiting = ("right", 0, 1, 1) if book.runs() else ("sail", 1, 1)
            book.deed(waiting)
            book.undo()
            before = kept(book)
            with self.assertRaises(errors.MarkError, msg=deed) as caught:
                do(book, deed)
            self.assertIs(type(caught.exception), error, deed)
            self.assertEqual(kept(book), before)
            self.assertEqual(book.undone(), [waiting])

    def assert_nothing_left(self, action):
        with self.assertRaises(errors.MarkError) as caught:
            action()
        self.assertIs(type(caught.exception), errors.NothingLeft)


class EmptyBookTest(BookCase):
    def test_empty(self):
        book = Book()
        self.assertEqual(kept(book), (([], [], [], [], 1), [], []))
        self.assert_nothing_left(book.undo)
        self.assert_nothing_left(book.redo)
        self.assertEqual(kept(book), (([], [], [], [], 1), [], []))

    def test_two_books_share_nothing(self):
        one, other = Book(), Book()
        one.mark("ann", 1, 2)
        one.sail(1, 1)
        one.undo()
        self.assertEqual(kept(other), kept(Book()))


class MarkTest(BookCase):
    def test_done(self):
        book = self.assert_does([], ("mark", "ann", 3, -4))
        self.assertEqual(book.marks(), [("ann", 3, -4)])
        # Two marks may be at one place, and a mark may be called like a bank.
        self.assert_does([("mark", "ann", 3, -4)], ("mark", "bob", 3, -4))
        self.assert_does([("bank", "ann", TRIANGLE)], ("mark", "ann", 3, -4))

    def test_rising(self):
        book = book_of([("mark", "b", 9, 9), ("mark", "ab", -5, 0), ("mark", "a", 7, 7), ("mark", "abc", 1, 1)])
        self.assertEqual(book.marks(), [("a", 7, 7), ("ab", -5, 0), ("abc", 1, 1), ("b", 9, 9)])

    def test_names(self):
        for name in GOOD_NAMES:
            self.assert_does([], ("mark", name, 0, 0))
        for name in BAD_NAMES:
            self.assert_refused([], ("mark", name, 0, 0), errors.BadName)

    def test_places(self):
        for x, y in ((1000, 0), (-1000, 0), (0, 1000), (0, -1000), (-1000, 1000)):
            self.assert_does([], ("mark", "ann", x, y))
        for x, y in ((1001, 0), (-1001, 0), (0, 1001), (0, -1001), (10 ** 30, 0), (0, -10 ** 30)):
            self.assert_refused([], ("mark", "ann", x, y), errors.BadPlace)

    def test_taken(self):
        self.assert_refused([("mark", "ann", 3, -4)], ("mark", "ann", 5, 5), errors.Taken)
        self.assert_refused([("mark", "ann", 3, -4)], ("mark", "ann", 3, -4), errors.Taken)
        self.assert_does([("mark", "ann", 3, -4), ("unmark", "ann")], ("mark", "ann", 5, 5))

    def test_full(self):
        self.assert_does(marks_made(19), ("mark", "ann", 0, 0))
        self.assert_refused(marks_made(20), ("mark", "ann", 0, 0), errors.Full)
        self.assert_does(marks_made(20) + [("unmark", letters(4))], ("mark", "ann", 0, 0))
        # Other kinds take no room.
        self.assert_does(marks_made(19) + banks_made(8) + [("sail", 0, 0)] * 12, ("mark", "ann", 0, 0))

    def test_the_first_that_is_due(self):
        self.assert_refused([], ("mark", "Ann", 1001, 0), errors.BadName)
        self.assert_refused(marks_made(20), ("mark", "", 1001, 0), errors.BadName)
        self.assert_refused(marks_made(20), ("mark", letters(0), 1001, 0), errors.Taken)
        self.assert_refused(marks_made(20), ("mark", letters(0), 0, 0), errors.Taken)
        self.assert_refused(marks_made(20), ("mark", "ann", 0, -1001), errors.BadPlace)


class MoveTest(BookCase):
    two = [("mark", "ann", 3, -4), ("mark", "bob", 0, 0), ("mark", "cid", 7, 7)]
    ranged = two + [("range", 0, "ann", "bob")]

    def test_done(self):
        book = self.assert_does(self.two, ("move", "ann", 8, 9))
        self.assertEqual(book.marks(), [("ann", 8, 9), ("bob", 0, 0), ("cid", 7, 7)])
        self.assert_does(self.two, ("move", "ann", 3, -4))
        self.assert_does(self.two, ("move", "ann", 0, 0))
        self.assert_does(marks_made(20), ("move", letters(0), 5, 5))

    def test_no_mark(self):
        self.assert_refused(self.two, ("move", "dan", 1, 1), errors.NoMark)
        self.assert_refused(self.two + [("bank", "dan", TRIANGLE)], ("move", "dan", 1, 1), errors.NoMark)
        self.assert_refused(self.two, ("move", "Not a name", 1, 1), errors.NoMark)
        self.assert_refused(self.two, ("move", "", 1, 1), errors.NoMark)
        self.assert_refused(self.two + [("unmark", "ann")], ("move", "ann", 1, 1), errors.NoMark)

    def test_places(self):
        for x, y in ((1000, -1000), (-1000, 1000)):
            self.assert_does(self.two, ("move", "ann", x, y))
        for x, y in ((1001, 0), (-1001, 0), (0, 1001), (0, -1001)):
            self.assert_refused(self.two, ("move", "ann", x, y), errors.BadPlace)

    def test_same(self):
        self.assert_refused(self.ranged, ("move", "ann", 0, 0), errors.Same)
        self.assert_refused(self.ranged, ("move", "bob", 3, -4), errors.Same)
        # Onto a mark with which there is no range, or where it is already.
        self.assert_does(self.ranged, ("move", "ann", 7, 7))
        self.assert_does(self.ranged, ("move", "cid", 0, 0))
        self.assert_does(self.ranged, ("move", "ann", 3, -4))
        self.assert_does(self.two + [("bearing", 0, "ann", (1, 0), (0, 1))], ("move", "ann", 0, 0))

    def test_same_by_where_the_other_is_now(self):
        moved = self.ranged + [("move", "bob", 50, 50)]
        self.assert_does(moved, ("move", "ann", 0, 0))
        self.assert_refused(moved, ("move", "ann", 50, 50), errors.Same)

    def test_not_same_by_a_range_that_was_struck(self):
        self.assert_does(self.ranged + [("strike", 1)], ("move", "ann", 0, 0))
        twice = self.ranged + [("range", 0, "bob", "ann"), ("strike", 1)]
        self.assert_refused(twice, ("move", "ann", 0, 0), errors.Same)

    def test_the_first_that_is_due(self):
        self.assert_refused(self.ranged, ("move", "dan", 1001, 0), errors.NoMark)
        edge = [("mark", "ann", 1000, 0), ("mark", "bob", 0, 0), ("range", 0, "ann", "bob")]
        self.assert_refused(edge, ("move", "bob", 1001, 0), errors.BadPlace)
        self.assert_refused(edge, ("move", "bob", 1000, 0), errors.Same)


class UnmarkTest(BookCase):
    made = [("mark", "ann", 3, -4), ("mark", "bob", 0, 0), ("mark", "cid", 7, 7)]

    def test_done(self):
        book = self.assert_does(self.made, ("unmark", "ann"))
        self.assertEqual(book.marks(), [("bob", 0, 0), ("cid", 7, 7)])

    def test_no_mark(self):
        for name in ("dan", "", "Ann"):
            self.assert_refused(self.made + [("bank", "dan", TRIANGLE)], ("unmark", name), errors.NoMark)
        self.assert_refused(self.made + [("unmark", "ann")], ("unmark", "ann"), errors.NoMark)

    def test_needed(self):
        noted = self.made + [("bearing", 0, "ann", (1, 0), (0, 1)), ("range", 0, "bob", "cid")]
        for name in ("ann", "bob", "cid"):
            self.assert_refused(noted, ("unmark", name), errors.Needed)
        self.assert_does(noted + [("strike", 1)], ("unmark", "ann"))
        self.assert_refused(noted + [("strike", 1)], ("unmark", "bob"), errors.Needed)
        for name in ("bob", "cid"):
            self.assert_does(noted + [("strike", 2)], ("unmark", name))
        again = noted + [("bearing", 0, "ann", (1, 0), (0, 1)), ("strike", 1)]
        self.assert_refused(again, ("unmark", "ann"), errors.Needed)

    def test_marks_called_like_deeds(self):
        noted = self.made + [("mark", "bearing", 1, 1), ("mark", "range", 2, 2),
                             ("bearing", 0, "ann", (1, 0), (0, 1)), ("range", 0, "bob", "cid")]
        self.assert_does(noted, ("unmark", "bearing"))
        self.assert_does(noted, ("unmark", "range"))
        self.assert_refused(noted + [("range", 0, "range", "bearing")], ("unmark", "range"), errors.Needed)


class BankTest(BookCase):
    def test_done(self):
        book = self.assert_does([], ("bank", "sand", TRIANGLE))
        self.assertEqual(book.banks(), [("sand", TRIANGLE)])
        self.assert_does([], ("bank", "sand", EIGHT))
        self.assert_does([("mark", "sand", 0, 0)], ("bank", "sand", TRIANGLE))
        self.assert_does([("bank", "sand", TRIANGLE)], ("bank", "rock", TRIANGLE))

    def test_rising(self):
        book = book_of([("bank", "b", TRIANGLE), ("bank", "ab", EIGHT), ("bank", "a", TRIANGLE)])
        self.assertEqual(book.banks(), [("a", TRIANGLE), ("ab", EIGHT), ("b", TRIANGLE)])

    def test_a_list_of_corners(self):
        corners = list(TRIANGLE)
        book = Book()
        self.assertIsNone(book.bank("sand", corners))
        self.assertEqual(corners, list(TRIANGLE))
        corners[0] = (-50, -50)
        corners.append((9, 9))
        corners.clear()
        self.assertEqual(book.banks(), [("sand", TRIANGLE)])
        self.assertEqual(book.deeds(), [("bank", "sand", TRIANGLE)])
        self.assertIs(type(book.banks()[0][1]), tuple)
        self.assertIs(type(book.deeds()[0][2]), tuple)
        book.undo()
        self.assertEqual(book.undone(), [("bank", "sand", TRIANGLE)])
        self.assertEqual(book.redo(), ("bank", "sand", TRIANGLE))

    def test_names(self):
        for name in GOOD_NAMES:
            self.assert_does([], ("bank", name, TRIANGLE))
        for name in BAD_NAMES:
            self.assert_refused([], ("bank", name, TRIANGLE), errors.BadName)

    def test_taken(self):
        self.assert_refused([("bank", "sand", TRIANGLE)], ("bank", "sand", EIGHT), errors.Taken)
        self.assert_does([("bank", "sand", TRIANGLE), ("level", "sand")], ("bank", "sand", EIGHT))

    def test_places(self):
        self.assert_does([], ("bank", "sand", ((-1000, -1000), (1000, -1000), (1000, 1000), (-1000, 1000))))
        for corner in ((1001, 0), (-1001, 0), (0, 1001), (0, -1001)):
            for at in range(3):
                corners = TRIANGLE[:at] + (corner,) + TRIANGLE[at + 1:]
                self.assert_refused([], ("bank", "sand", corners), errors.BadPlace)

    def test_bad_bank(self):
        for corners in ((), TRIANGLE[:1], TRIANGLE[:2], TURNED, NINE, ((0, 0), (1, 1), (2, 2)), TRIANGLE * 2,
                        ((0, 0), (4, 0), (2, 1), (0, 4)), ((0, 0), (2, 0), (4, 0), (0, 4)), TRIANGLE + ((0, 0),),
                        ((0, 0), (1, 0), (1, 0), (0, 1)), ((0, 4), (-4, -4), (3, 1), (-3, 1), (4, -4))):
            self.assert_refused([], ("bank", "sand", corners), errors.BadBank)

    def test_full(self):
        self.assert_does(banks_made(7), ("bank", "sand", TRIANGLE))
        self.assert_refused(banks_made(8), ("bank", "sand", TRIANGLE), errors.Full)
        self.assert_does(banks_made(8) + [("level", letters(3))], ("bank", "sand", TRIANGLE))
        self.assert_does(banks_made(7) + marks_made(20), ("bank", "sand", TRIANGLE))

    def test_the_first_that_is_due(self):
        far = TURNED[:2] + ((1001, 0),)
        self.assert_refused(banks_made(8), ("bank", "Sand", far), errors.BadName)
        self.assert_refused(banks_made(8), ("bank", letters(0), far), errors.Taken)
        self.assert_refused(banks_made(8), ("bank", "sand", far), errors.BadPlace)
        self.assert_refused([], ("bank", "sand", ((0, 0), (0, -1001))), errors.BadPlace)
        self.assert_refused([], ("bank", "sand", NINE + ((0, 1001),)), errors.BadPlace)
        self.assert_refused(banks_made(8), ("bank", "sand", TURNED), errors.BadBank)


class LevelTest(BookCase):
    def test_done(self):
        book = self.assert_does(banks_made(3), ("level", letters(1)))
        self.assertEqual(book.banks(), [(letters(0), TRIANGLE), (letters(2), TRIANGLE)])

    def test_no_bank(self):
        for name in ("sand", "", "Sand", "ann"):
            self.assert_refused([("mark", "ann", 0, 0)] + banks_made(2), ("level", name), errors.NoBank)
        self.assert_refused([("bank", "sand", TRIANGLE), ("level", "sand")], ("level", "sand"), errors.NoBank)


class SailAndRightTest(BookCase):
    ends = ((1000, 0), (-1000, 0), (0, 1000), (0, -1000), (0, 0))
    beyond = ((1001, 0), (-1001, 0), (0, 1001), (0, -1001), (10 ** 30, 1))

    def test_done(self):
        book = self.assert_does([("sail", 9, 9)], ("sail", 3, -4))
        self.assertEqual(book.runs(), [(9, 9), (3, -4)])
        for run in self.ends:
            self.assert_does([], ("sail",) + run)
            self.assert_does([("sail", 1, 2)], ("right", 0) + run)

    def test_bad_run(self):
        for run in self.beyond:
            self.assert_refused([], ("sail",) + run, errors.BadRun)
            self.assert_refused([("sail", 1, 2)], ("right", 0) + run, errors.BadRun)

    def test_full(self):
        self.assert_does([("sail", 0, 0)] * 11, ("sail", 5, 5))
        self.assert_refused([("sail", 0, 0)] * 12, ("sail", 5, 5), errors.Full)
        self.assert_refused([("sail", 0, 0)] * 12, ("sail", 5, 1001), errors.BadRun)
        self.assert_does([("sail", 0, 0)] * 12, ("right", 11, 5, 5))
        book = book_of([("sail", 0, 0)] * 12)
        book.undo()
        book.sail(7, 7)
        self.assertEqual(book.runs(), [(0, 0)] * 11 + [(7, 7)])

    def test_right(self):
        runs = [("sail", number, -number) for number in range(4)]
        book = self.assert_does(runs, ("right", 2, 50, 60))
        self.assertEqual(book.runs(), [(0, 0), (1, -1), (50, 60), (3, -3)])
        self.assert_does(runs, ("right", 2, 2, -2))
        self.assert_does(runs, ("right", 0, 5, 6))
        self.assert_does(runs, ("right", 3, 5, 6))

    def test_no_run(self):
        runs = [("sail", number, -number) for number in range(4)]
        for number in (-1, -4, 4, 5, 10 ** 20, -10 ** 20):
            self.assert_refused(runs, ("right", number, 5, 6), errors.NoRun)
            self.assert_refused(runs, ("right", number, 1001, 6), errors.NoRun)
        self.assert_refused([], ("right", 0, 5, 6), errors.NoRun)


class BearingTest(BookCase):
    made = [("mark", "ann", 3, -4), ("sail", 1, 1), ("sail", 2, 2), ("bank", "sand", TRIANGLE)]
    full = made + [("bearing", 0, "ann", (1, 0), (0, 1))] * 24

    def test_done(self):
        deed = ("bearing", 1, "ann", (1, 0), (0, 1))
        book = self.assert_does(self.made, deed, 1)
        self.assertEqual(book.notes(), [(1, deed)])
        self.assertEqual(book.coming(), 2)
        self.assert_does(self.made + [deed], deed, 2)

    def test_moments(self):
        for moment in (0, 1, 2):
            self.assert_does(self.made, ("bearing", moment, "ann", (1, 0), (0, 1)), 1)
        for moment in (-1, -3, 3, 4, 10 ** 20):
            self.assert_refused(self.made, ("bearing", moment, "ann", (1, 0), (0, 1)), errors.NoMoment)
        self.assert_does(self.made[:1], ("bearing", 0, "ann", (1, 0), (0, 1)), 1)
        self.assert_refused(self.made[:1], ("bearing", 1, "ann", (1, 0), (0, 1)), errors.NoMoment)

    def test_no_mark(self):
        for name in ("bob", "sand", "", "ANN"):
            self.assert_refused(self.made, ("bearing", 0, name, (1, 0), (0, 1)), errors.NoMark)

    def test_ways(self):
        for one, other in (((100, 0), (0, 100)), ((100, 100), (-100, 100)), ((-100, -100), (100, -100)),
                           ((100, 99), (99, 100)), ((0, -100), (100, 0))):
            self.assert_does(self.made, ("bearing", 0, "ann", one, other), 1)
        for bad in NOUGHT_OR_BEYOND:
            self.assert_refused(self.made, ("bearing", 0, "ann", bad, (0, 1)), errors.BadWay)
            self.assert_refused(self.made, ("bearing", 0, "ann", (1, 0), bad), errors.BadWay)
            self.assert_refused(self.made, ("bearing", 0, "ann", bad, bad), errors.BadWay)

    def test_turns(self):
        # The same way, the contrary one, and to the right.
        for one, other in (((1, 0), (1, 0)), ((1, 0), (3, 0)), ((2, 1), (-2, -1)), ((2, 1), (-4, -2)),
                           ((0, 1), (1, 0)), ((100, 100), (100, 99)), ((1, 0), (-1, -1))):
            self.assert_refused(self.made, ("bearing", 0, "ann", one, other), errors.BadTurn)
        self.assert_does(self.made, ("bearing", 0, "ann", (1, 0), (-100, 1)), 1)
        self.assert_does(self.made, ("bearing", 0, "ann", (100, 99), (99, 99)), 1)

    def test_full(self):
        self.assert_does(self.full[:-1], ("bearing", 2, "ann", (1, 0), (0, 1)), 24)
        self.assert_refused(self.full, ("bearing", 2, "ann", (1, 0), (0, 1)), errors.Full)
        self.assert_does(self.full + [("strike", 7)], ("bearing", 2, "ann", (1, 0), (0, 1)), 25)

    def test_the_first_that_is_due(self):
        self.assert_refused(self.full, ("bearing", 3, "bob", (0, 0), (0, 0)), errors.NoMoment)
        self.assert_refused(self.full, ("bearing", 0, "bob", (0, 0), (0, 0)), errors.NoMark)
        self.assert_refused(self.full, ("bearing", 0, "ann", (101, 0), (1, 0)), errors.BadWay)
        self.assert_refused(self.full, ("bearing", 0, "ann", (1, 0), (101, 0)), errors.BadWay)
        self.assert_refused(self.full, ("bearing", 0, "ann", (1, 0), (1, 0)), errors.BadTurn)


class RangeTest(BookCase):
    made = [("mark", "ann", 3, -4), ("mark", "bob", 0, 0), ("mark", "cid", 0, 0), ("sail", 1, 1), ("sail", 2, 2)]
    full = made + [("range", 0, "ann", "bob")] * 24

    def test_done(self):
        deed = ("range", 1, "ann", "bob")
        book = self.assert_does(self.made, deed, 1)
        self.assertEqual(book.notes(), [(1, deed)])
        self.assert_does(self.made + [deed], ("range", 1, "bob", "ann"), 2)
        self.assert_does(self.made + [("bearing", 0, "ann", (1, 0), (0, 1))], deed, 2)

    def test_moments(self):
        for moment in (0, 1, 2):
            self.assert_does(self.made, ("range", moment, "ann", "bob"), 1)
        for moment in (-1, -3, 3, 4, 10 ** 20):
            self.assert_refused(self.made, ("range", moment, "ann", "bob"), errors.NoMoment)

    def test_no_mark(self):
        for left, right in (("ann", "dan"), ("dan", "ann"), ("dan", "eve"), ("", "ann"), ("ann", ""), ("dan", "dan")):
            self.assert_refused(self.made, ("range", 0, left, right), errors.NoMark)

    def test_same(self):
        for left, right in (("bob", "cid"), ("cid", "bob"), ("ann", "ann")):
            self.assert_refused(self.made, ("range", 0, left, right), errors.Same)
        self.assert_does(self.made + [("move", "cid", 0, 1)], ("range", 0, "bob", "cid"), 1)

    def test_full(self):
        self.assert_does(self.full[:-1], ("range", 0, "ann", "cid"), 24)
        self.assert_refused(self.full, ("range", 0, "ann", "cid"), errors.Full)
        # Both kinds of notes share their room.
        self.assert_refused(self.full, ("bearing", 0, "ann", (1, 0), (0, 1)), errors.Full)
        self.assert_refused(BearingTest.full + [("mark", "bob", 0, 0)], ("range", 0, "ann", "bob"), errors.Full)
        self.assert_does(self.full + [("strike", 24)], ("range", 0, "ann", "cid"), 25)

    def test_the_first_that_is_due(self):
        self.assert_refused(self.full, ("range", 3, "dan", "ann"), errors.NoMoment)
        self.assert_refused(self.full, ("range", 3, "bob", "cid"), errors.NoMoment)
        self.assert_refused(self.full, ("range", 0, "ann", "dan"), errors.NoMark)
        self.assert_refused(self.full, ("range", 0, "dan", "dan"), errors.NoMark)
        self.assert_refused(self.full, ("range", 0, "bob", "cid"), errors.Same)


class StrikeTest(BookCase):
    made = [("mark", "ann", 3, -4)] + [("bearing", 0, "ann", (1, 0), (0, number)) for number in (1, 2, 3)]

    def test_done(self):
        book = self.assert_does(self.made, ("strike", 2))
        self.assertEqual(book.notes(), [(1, self.made[1]), (3, self.made[3])])
        self.assertEqual(book.coming(), 4)
        self.assert_does(self.made, ("strike", 1))
        self.assert_does(self.made, ("strike", 3))

    def test_no_note(self):
        for number in (0, -1, -3, 4, 10 ** 20, -10 ** 20):
            self.assert_refused(self.made, ("strike", number), errors.NoNote)
        self.assert_refused(self.made + [("strike", 2)], ("strike", 2), errors.NoNote)
        self.assert_refused([], ("strike", 1), errors.NoNote)

    def test_no_number_comes_again(self):
        book = self.assert_does(self.made + [("strike", 3)], ("bearing", 0, "ann", (1, 0), (0, 4)), 4)
        book.strike(1)
        book.strike(2)
        book.strike(4)
        self.assertEqual(book.notes(), [])
        self.assertEqual(book.coming(), 5)
        self.assertEqual(book.bearing(0, "ann", (1, 0), (0, 1)), 5)

    def test_behind_an_undoing_the_number_is_as_it_was_there(self):
        book = book_of(self.made)
        book.undo()
        self.assertEqual(book.coming(), 3)
        self.assertEqual(book.bearing(0, "ann", (1, 0), (0, 9)), 3)
        book.strike(3)
        book.undo()
        self.assertEqual(book.coming(), 4)
        book.undo()
        book.undo()
        self.assertEqual(book.coming(), 2)
        book.redo()
        self.assertEqual(book.coming(), 3)
        book.mark("bob", 0, 0)
        self.assertEqual(book.range_note(0, "ann", "bob"), 3)

    def test_refused_takes_no_number(self):
        book = book_of(self.made)
        with self.assertRaises(errors.BadTurn):
            book.bearing(0, "ann", (1, 0), (1, 0))
        self.assertEqual(book.bearing(0, "ann", (1, 0), (0, 1)), 4)

    def test_more_than_a_hundred_numbers(self):
        book = book_of(self.made[:1])
        for number in range(1, 200):
            self.assertEqual(book.bearing(0, "ann", (1, 0), (0, 1)), number)
            if number > 20:
                book.strike(number - 20)
        self.assertEqual([number for number, deed in book.notes()], list(range(180, 200)))


class UndoTest(BookCase):
    # One of each kind of deed behind the fairway's.
    further = (
        ("move", "bob", 1, 11), ("right", 1, 4, 4), ("strike", 2), ("unmark", "bob"), ("level", "sand"),
        ("mark", "bob", 5, 6), ("range", 2, "ann", "bob"), ("bank", "rock", EIGHT), ("sail", 0, 7),
    )

    def test_back_and_forth(self):
        deeds = list(FAIRWAY + self.further)
        book = Book()
        seen = [(stands(book), all_answers(book))]
        for deed in deeds:
            book.deed(deed)
            seen.append((stands(book), all_answers(book)))
        for _ in range(2):
            for at in reversed(range(len(deeds))):
                self.assertEqual(book.undo(), deeds[at])
                self.assertEqual((stands(book), all_answers(book)), seen[at])
                self.assertEqual(book.deeds(), deeds[:at])
                self.assertEqual(book.undone(), deeds[at:])
            self.assert_nothing_left(book.undo)
            self.assertEqual(kept(book), (seen[0][0], [], deeds))
            for at in range(len(deeds)):
                self.assertEqual(book.redo(), deeds[at])
                self.assertEqual((stands(book), all_answers(book)), seen[at + 1])
                self.assertEqual(book.deeds(), deeds[:at + 1])
                self.assertEqual(book.undone(), deeds[at + 1:])
            self.assert_nothing_left(book.redo)
            self.assertEqual(kept(book), (seen[-1][0], deeds, []))

    def test_another_deed_ends_the_redoing(self):
        for deed in ((("mark", "dan", 1, 1),) + self.further[:3] + (("sail", 3, -1), ("sail", -2, 5))):
            book = book_of(FAIRWAY + (("sail", 9, 9), ("sail", 8, 8)))
            book.undo()
            book.undo()
            book.deed(deed)
            self.assertEqual(book.undone(), [])
            self.assert_nothing_left(book.redo)
            self.assertEqual(book.undo(), deed)
            self.assertEqual(book.undone(), [deed])

    def test_the_very_deed_again_ends_the_redoing_too(self):
        book = book_of([("sail", 1, 1), ("sail", 2, 2), ("sail", 3, 3)])
        book.undo()
        book.undo()
        book.sail(2, 2)
        self.assertEqual(book.undone(), [])
        self.assert_nothing_left(book.redo)

    def test_a_refused_deed_and_asking_do_not(self):
        book = book_of(FAIRWAY)
        book.undo()
        book.undo()
        for deed, error in ((("mark", "ann", 0, 0), errors.Taken), (("strike", 9), errors.NoNote)):
            with self.assertRaises(error):
                book.deed(deed)
        all_answers(book)
        kept(book)
        book.twin().sail(1, 1)
        self.assertEqual(book.undone(), list(FAIRWAY[-2:]))
        self.assertEqual(book.redo(), FAIRWAY[-2])
        self.assertEqual(book.redo(), FAIRWAY[-1])
        self.assertEqual(kept(book), kept(book_of(FAIRWAY)))

    def test_a_refused_undoing_changes_nothing(self):
        book = book_of([("sail", 1, 1)])
        self.assert_nothing_left(book.redo)
        self.assertEqual(kept(book), kept(book_of([("sail", 1, 1)])))
        book.undo()
        self.assert_nothing_left(book.undo)
        self.assertEqual(book.undone(), [("sail", 1, 1)])

    def test_a_deed_that_leaves_all_as_it_is(self):
        still = [("move", "ann", 10, 0), ("right", 0, 3, -1)]
        for deed in still:
            book = book_of(FAIRWAY + (("sail", 5, 5),))
            book.undo()
            before = stands(book)
            self.assertIsNone(book.deed(deed))
            self.assertEqual(stands(book), before)
            self.assertEqual(book.deeds(), list(FAIRWAY) + [deed])
            self.assertEqual(book.undone(), [])
            self.assertEqual(book.undo(), deed)
            self.assertEqual(book.undone(), [deed])
            self.assertEqual(stands(book), before)

    def test_room_again_behind_an_undoing(self):
        book = book_of(marks_made(20))
        book.undo()
        book.mark("ann", 0, 0)
        with self.assertRaises(errors.Full):
            book.mark("bob", 0, 0)

    def test_many_deeds(self):
        book = book_of([("sail", 0, 0)])
        for number in range(3000):
            book.right(0, number % 7, 1)
        for number in reversed(range(3000)):
            self.assertEqual(book.undo(), ("right", 0, number % 7, 1))
        self.assertEqual(len(book.undone()), 3000)
        self.assertEqual(book.runs(), [(0, 0)])


class TwinTest(BookCase):
    def test_alike(self):
        for back in range(len(FAIRWAY) + 1):
            book = book_of(FAIRWAY)
            for _ in range(back):
                book.undo()
            twin = book.twin()
            self.assertIsNot(twin, book)
            self.assertIs(type(twin), Book)
            self.assertEqual(kept(twin), kept(book))
            self.assertEqual(all_answers(twin), all_answers(book))

    def test_undone_and_done_again(self):
        book = book_of(FAIRWAY)
        book.undo()
        before = kept(book)
        twin = book.twin()
        while twin.deeds():
            twin.undo()
        self.assertEqual(kept(twin), (([], [], [], [], 1), [], list(FAIRWAY)))
        self.assert_nothing_left(twin.undo)
        while twin.undone():
            twin.redo()
        self.assertEqual(kept(twin), kept(book_of(FAIRWAY)))
        self.assertEqual(kept(book), before)
        self.assertEqual(book.redo(), FAIRWAY[-1])

    def test_what_is_done_to_one_is_not_done_to_the_other(self):
        chance = random.Random(51)
        for _ in range(30):
            one = book_of(voyage(chance))
            for _ in range(3):
                one.undo()
            books = [one, one.twin()]
            books.append(books[1].twin())
            books.append(one.twin())
            for number, book in enumerate(books):
                others = [(other, kept(other), all_answers(other)) for other in books if other is not book]
                for step in chance.choices((book.undo, book.redo, lambda: book.sail(number, 1)), k=6):
                    try:
                        step()
                    except errors.MarkError:
                        pass
                book.mark("fay", number, number)
                book.move("ann", number, 1)
                book.bearing(0, "fay", (1, 0), (0, 1))
                book.bank("reef", TRIANGLE)
                for other, before, told in others:
                    self.assertEqual(kept(other), before)
                    self.assertEqual(all_answers(other), told)

    def test_an_empty_twin(self):
        book = Book()
        twin = book.twin()
        twin.sail(1, 1)
        self.assertEqual(kept(book), kept(Book()))
        self.assertEqual(book.twin().runs(), [])


class AnyDeedsTest(BookCase):
    def test_as_the_words_say(self):
        chance = random.Random(52)
        refused = set()
        for _ in range(6):
            book, model = Book(), Model()
            for _ in range(1200):
                self.step(chance, book, model, refused)
                self.assertEqual(kept(book), model.kept())
        self.assertEqual(len(refused), 16 + 3)

    def step(self, chance, book, model, refused):
        way = chance.random()
        if way < 0.08 and model.stood:
            self.assertEqual(book.undo(), model.back())
        elif way < 0.14 and model.waiting:
            self.assertEqual(book.redo(), model.again())
        elif way < 0.02 and not model.stood or way > 0.99 and not model.waiting:
            self.assert_nothing_left(book.redo if way > 0.5 else book.undo)
            refused.add(errors.NothingLeft)
        else:
            self.do(chance, book, model, refused)

    def do(self, chance, book, model, refused):
        deed = any_deed(chance)
        do = chance.choice((by_method, Book.deed))
        error = model.refusal(deed)
        if error is None:
            self.assertEqual(do(book, deed), model.do(deed))
        else:
            # Full counts once for each of the four kinds.
            kind = "note" if deed[0] in ("bearing", "range") else deed[0]
            refused.add((error, kind) if error is errors.Full else error)
            with self.assertRaises(errors.MarkError, msg=deed) as caught:
                do(book, deed)
            self.assertIs(type(caught.exception), error, deed)


class ToldListsTest(BookCase):
    def test_each_is_a_new_one(self):
        book = book_of(FAIRWAY + UndoTest.further)
        for _ in range(4):
            book.undo()
        for name in ("deeds", "undone", "marks", "banks", "runs", "notes"):
            told = getattr(book, name)()
            self.assertIs(type(told), list)
            first = copy.deepcopy(told)
            before = kept(book)
            wreck(told)
            self.assertEqual(getattr(book, name)(), first)
            self.assertEqual(kept(book), before)
        wreck(book.twin().deeds())
        self.assertEqual(len(book.deeds()), len(FAIRWAY) + len(UndoTest.further) - 4)

    def test_kinds(self):
        book = book_of(FAIRWAY)
        book.undo()
        told = [book.deeds(), book.undone(), book.marks(), book.banks(), book.runs(), book.notes()]
        for rows in told:
            for row in rows:
                self.assertIs(type(row), tuple)
        self.assertEqual([len(row) for row in book.marks()], [3, 3, 3])
        for number, deed in book.notes():
            self.assertIs(type(number), int)
            self.assertIs(type(deed), tuple)
        self.assertIs(type(book.coming()), int)


if __name__ == "__main__":
    unittest.main()
