"""Points 1, 22 and 24: books as texts."""

import random
import unittest

from exact import FAIRWAY, ExactCase, all_answers, book_of, kept, stands, voyage
from seamarks import errors
from seamarks.book import Book
from seamarks.rows import read, written

FAIRWAY_ROWS = (
    "mark ann 10 0\n",
    "mark bob 0 10\n",
    "mark cid -10 -5\n",
    "bank sand 0 0 4 0 0 4\n",
    "sail 3 -1\n",
    "sail -2 5\n",
    "bearing 0 ann 1 -1 1 1\n",
    "range 1 bob ann\n",
    "bearing 2 cid -1 0 0 -1\n",
)
# One of each word, with what makes it stand ahead of it.
EACH = (
    (("mark", "ann", 3, -4), "mark ann 3 -4"),
    (("mark", "bob", -1000, 1000), "mark bob -1000 1000"),
    (("move", "ann", -7, 0), "move ann -7 0"),
    (("bank", "sand", ((0, 0), (4, 0), (0, 4))), "bank sand 0 0 4 0 0 4"),
    (("bank", "rock", ((-5, -1), (9, -2), (8, 7), (-3, 6))), "bank rock -5 -1 9 -2 8 7 -3 6"),
    (("level", "sand"), "level sand"),
    (("sail", -12, 345), "sail -12 345"),
    (("right", 0, 6, -1000), "right 0 6 -1000"),
    (("bearing", 0, "ann", (1, 0), (0, 1)), "bearing 0 ann 1 0 0 1"),
    (("bearing", 1, "bob", (-100, -7), (7, -100)), "bearing 1 bob -100 -7 7 -100"),
    (("range", 1, "bob", "ann"), "range 1 bob ann"),
    (("strike", 2), "strike 2"),
    (("strike", 3), "strike 3"),
    (("unmark", "bob"), "unmark bob"),
)
AHEAD = "mark ann 3 -4\nmark bob 0 0\nsail 5 6\nbank sand 0 0 4 0 0 4\nbearing 0 ann 1 0 0 1\n"


class RowsCase(ExactCase):
    def assert_bad_row(self, text, at):
        with self.assertRaises(errors.MarkError, msg=repr(text)) as caught:
            read(text)
        self.assertIs(type(caught.exception), errors.BadRow, text)
        self.assertEqual(caught.exception.at, at, text)
        self.assertIs(type(caught.exception.at), int)

    def assert_bad(self, row):
        """By itself behind others, ahead of others, and ahead of another bad one."""
        count = AHEAD.count("\n")
        self.assert_bad_row(AHEAD + row + "\n", count)
        self.assert_bad_row(AHEAD + row + "\nsail 1 1\n", count)
        self.assert_bad_row(AHEAD + row + "\nno row\nsail 1 1", count)
        self.assert_bad_row(AHEAD + "sail 1 1\n" * 3 + row + "\n", count + 3)

    def assert_good(self, row):
        self.assertEqual(written(read(AHEAD + row + "\n")), AHEAD + row + "\n")


class WrittenTest(RowsCase):
    def test_each_deed(self):
        book = Book()
        text = ""
        for deed, row in EACH:
            book.deed(deed)
            text += row + "\n"
            self.assertEqual(written(book), text)
            self.assertEqual(read(text).deeds(), book.deeds())

    def test_fairway(self):
        self.assertEqual(written(book_of(FAIRWAY)), "".join(FAIRWAY_ROWS))

    def test_the_empty_book(self):
        self.assertEqual(written(Book()), "")

    def test_the_deeds_that_stand_alone(self):
        book = book_of(FAIRWAY)
        for at in reversed(range(len(FAIRWAY))):
            book.undo()
            self.assertEqual(written(book), "".join(FAIRWAY_ROWS[:at]))
        book.redo()
        self.assertEqual(written(book), FAIRWAY_ROWS[0])
        self.assertRaises(errors.Taken, book.mark, "ann", 1, 1)
        self.assertEqual(written(book), FAIRWAY_ROWS[0])

    def test_asking_changes_nothing(self):
        book = book_of(FAIRWAY)
        book.undo()
        before = kept(book)
        written(book)
        self.assertEqual(kept(book), before)
        self.assertEqual(written(book.twin()), written(book))

    def test_a_bank_by_a_list(self):
        book = Book()
        book.bank("sand", [(0, 0), (4, 0), (0, 4)])
        self.assertEqual(written(book), "bank sand 0 0 4 0 0 4\n")

    def test_a_deed_that_leaves_all_as_it_is(self):
        book = book_of([("mark", "ann", 1, 2), ("move", "ann", 1, 2)])
        self.assertEqual(written(book), "mark ann 1 2\nmove ann 1 2\n")


class ReadTest(RowsCase):
    def test_the_empty_text(self):
        book = read("")
        self.assertIs(type(book), Book)
        self.assertEqual(kept(book), kept(Book()))

    def test_fairway(self):
        book = read("".join(FAIRWAY_ROWS))
        self.assertEqual(kept(book), kept(book_of(FAIRWAY)))
        self.assertEqual(all_answers(book), all_answers(book_of(FAIRWAY)))

    def test_nothing_to_do_again_but_all_to_undo(self):
        book = book_of(FAIRWAY)
        book.undo()
        told = read(written(book))
        self.assertEqual(told.undone(), [])
        self.assertRaises(errors.NothingLeft, told.redo)
        for deed in reversed(FAIRWAY[:-1]):
            self.assertEqual(told.undo(), deed)
        self.assertRaises(errors.NothingLeft, told.undo)

    def test_two_read_books_share_nothing(self):
        text = "".join(FAIRWAY_ROWS)
        one, other = read(text), read(text)
        one.strike(1)
        self.assertEqual(written(other), text)
        self.assertEqual(written(read(text)), text)

    def test_back_and_forth(self):
        chance = random.Random(71)
        for _ in range(60):
            book = book_of(voyage(chance, wrong=0.3))
            for number, note in book.notes():
                if chance.random() < 0.4:
                    book.strike(number)
            for _ in range(chance.randrange(3)):
                book.undo()
            told = read(written(book))
            self.assertEqual(stands(told), stands(book))
            self.assertEqual(told.deeds(), book.deeds())
            self.assertEqual(told.undone(), [])
            self.assertEqual(written(told), written(book))
            self.assertEqual(all_answers(told), all_answers(book))

    def test_numbers_behind_an_undoing(self):
        book = book_of(FAIRWAY)
        book.undo()
        book.undo()
        book.range_note(0, "ann", "bob")
        book.strike(1)
        self.assertEqual(stands(read(written(book))), stands(book))
        self.assertEqual(read(written(book)).coming(), 3)

    def test_many_rows(self):
        text = "sail 0 0\n" + "right 0 5 -5\n" * 4000
        self.assertEqual(written(read(text)), text)
        self.assert_bad_row(text + "sail 1 1\n" * 12, 4012)


class BadRowTest(RowsCase):
    def test_blanks(self):
        for row in ("sail  1 1", "sail 1  1", " sail 1 1", "sail 1 1 ", "sail1 1", "sail 11", "sail\t1 1",
                    "mark  cid 1 1", "mark cid 1 1 ", "bank rock 0 0 4 0 0 4 ", "bank rock  0 0 4 0 0 4",
                    "unmark bob ", "unmark  bob", " unmark bob", "strike  1", "strike 1 ", "level sand ",
                    "range 0 ann  bob", "range 0 ann bob ", "bearing 0 ann 1 0  0 1", " ", "  "):
            self.assert_bad(row)

    def test_figures(self):
        for number in ("01", "00", "-0", "-01", "007", "+1", "+0", "--1", "-", "", "1.0", "1e2", "0x1", "1_0", "1-",
                       "- 1", "a", "one", "1,", "0000000001", "-00", "1\t", "(1)", "'", "=1", "/", ":"):
            for row in (f"sail {number} 1", f"sail 1 {number}", f"mark cid {number} 1", f"mark cid 1 {number}",
                        f"move ann {number} 1", f"right {number} 1 1", f"right 0 {number} 1", f"right 0 1 {number}",
                        f"bearing {number} ann 1 0 0 1", f"bearing 0 ann {number} 1 -1 1",
                        f"bearing 0 ann 1 {number} -1 2", f"bearing 0 ann 1 0 {number} 1",
                        f"bearing 0 ann 1 0 0 {number}", f"range {number} ann bob", f"strike {number}",
                        f"bank rock {number} 0 4 0 0 4", f"bank rock -1 -1 4 0 0 {number}"):
                self.assert_bad(row)

    def test_ten_figures(self):
        # All of these would be refused by their worth as well; the count of figures is one thing more.
        for number in ("1000000000", "-1000000000", "9999999999", "1" * 5000):
            for row in (f"sail {number} 1", f"right {number} 1 1", f"strike {number}", f"range {number} ann bob"):
                self.assert_bad(row)
        for number in ("999999999", "-999999999", "100000000"):
            self.assert_bad(f"sail {number} 1")

    def test_good_figures(self):
        for row in ("sail 0 0", "sail -1 1", "sail 1000 -1000", "sail 10 -10", "sail 100 909", "strike 1",
                    "right 0 -9 0", "bearing 1 bob 0 -1 10 0"):
            self.assert_good(row)

    def test_unknown_words(self):
        for row in ("sails 1 1", "Sail 1 1", "SAIL 1 1", "go 1 1", "1 1", "range_note 0 ann bob", "undo", "redo",
                    "twin", "deed sail 1 1", "#", "sail,1,1", "coming", "marks", "note 0 ann", "s", "a", "n"):
            self.assert_bad(row)

    def test_too_many_and_too_few(self):
        for row in ("sail", "sail 1", "sail 1 1 1", "mark", "mark cid", "mark cid 1", "mark cid 1 1 1", "mark 1 1",
                    "move ann 1", "move ann 1 1 1", "unmark", "unmark bob bob", "unmark bob 1", "level",
                    "level sand sand", "right", "right 0", "right 0 1", "right 0 1 1 1", "bearing 0 ann 1 0 0",
                    "bearing 0 ann 1 0 0 1 1", "bearing 0 ann 1 0", "bearing ann 1 0 0 1", "bearing 0 1 0 0 1",
                    "bearing", "range 0 ann", "range 0 ann bob bob", "range ann bob", "range", "strike",
                    "strike 1 1", "strike 1 2"):
            self.assert_bad(row)

    def test_corners(self):
        for row in ("bank", "bank rock", "bank rock 0", "bank rock 0 0", "bank rock 0 0 4 0", "bank rock 0 0 4 0 0",
                    "bank rock 0 0 4 0 0 4 0", "bank rock 0 0 4 0 0 4 5 5 5", "bank 0 0 4 0 0 4",
                    "bank rock 0 0 0 4 4 0", "bank rock a b c d e f", "bank rock rock 0 0 4 0 0 4",
                    "bank rock 0 0 4 0 0 rock"):
            self.assert_bad(row)
        self.assert_good("bank rock 0 0 4 0 0 4")
        self.assert_good("bank rock 2 0 4 0 6 2 6 4 4 6 2 6 0 4 0 2")
        # Nine corners.
        self.assert_bad("bank rock 0 0 10 0 18 1 25 3 31 6 36 10 40 15 43 21 45 28")

    def test_a_missing_line_feed(self):
        self.assert_bad_row("sail 1 1", 0)
        self.assert_bad_row("sail 1 1\nsail 2 2", 1)
        self.assert_bad_row(AHEAD + "sail 1 1", 5)
        self.assert_bad_row(AHEAD[:-1], 4)
        self.assert_bad_row("nothing", 0)
        self.assert_bad_row(" ", 0)
        # An earlier row comes first.
        self.assert_bad_row("sail 1\nsail 2 2", 0)

    def test_an_empty_row(self):
        self.assert_bad_row("\n", 0)
        self.assert_bad_row("\n\n", 0)
        self.assert_bad_row("\nsail 1 1\n", 0)
        self.assert_bad_row("sail 1 1\n\n", 1)
        self.assert_bad_row("sail 1 1\n\nsail 2 2\n", 1)
        self.assert_bad("")

    def test_refused_deeds(self):
        for row in ("mark Cid 1 1", "mark abcdefghi 1 1", "mark ann 5 5", "mark cid 1001 0", "mark cid 0 -1001",
                    "move dan 1 1", "move ann 0 1001", "unmark ann", "unmark dan", "bank sand 0 0 5 0 0 5",
                    "bank rock 0 0 1001 0 0 4", "level rock", "sail 1001 0", "right 5 1 1", "right -1 1 1",
                    "right 0 0 1001", "bearing 9 ann 1 0 0 1", "bearing -1 ann 1 0 0 1", "bearing 0 dan 1 0 0 1",
                    "bearing 0 ann 0 0 0 1", "bearing 0 ann 101 0 0 1", "bearing 0 ann 0 1 1 0", "range 9 ann bob",
                    "range 0 ann dan", "range 0 ann ann", "strike 2", "strike 0", "strike -1", "mark c1d 1 1"):
            self.assert_bad(row)
        full = "".join(f"mark {'a' * (1 + number // 6)}{'bcdefg'[number % 6]} 0 {number}\n" for number in range(20))
        read(full)
        self.assert_bad_row(full + "mark zed 0 0\n", 20)
        self.assert_bad_row("strike 1\n" + AHEAD, 0)
        self.assert_bad_row(AHEAD + "strike 1\nstrike 1\n", 6)
        self.assert_bad_row("mark ann 1 1\nmark bob 2 2\nrange 0 ann bob\nmove ann 2 2\n", 3)

    def test_the_first_one(self):
        rows = list(FAIRWAY_ROWS)
        for at in range(len(rows)):
            text = "".join(rows[:at]) + "bad\n" + "".join(rows[at:])
            self.assert_bad_row(text, at)
            self.assert_bad_row(text + "bad\n", at)
            self.assert_bad_row("".join(rows[:at + 1])[:-1], at)

    def test_a_sign_more_or_less_or_other(self):
        chance = random.Random(72)
        text = "".join(row + "\n" for deed, row in EACH)
        for _ in range(3000):
            at = chance.randrange(len(text))
            sign = chance.choice("0123456789-+ \nabz~")
            other = text[:at] + chance.choice((sign, "", sign + text[at])) + text[at + 1:]
            try:
                book = read(other)
            except errors.BadRow as bad:
                rows = other.split("\n")
                self.assertIn(bad.at, range(len(rows)))
                ahead = "".join(row + "\n" for row in rows[:bad.at])
                self.assertEqual(written(read(ahead)), ahead)
            else:
                self.assertEqual(written(book), other)


if __name__ == "__main__":
    unittest.main()
