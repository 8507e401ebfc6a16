"""The whole program: what holds of any book, by points 1, 16 and 17 to 24, and that the interface is there."""

import importlib
import inspect
import random
import unittest
from fractions import Fraction

from exact import ExactCase, all_answers, answers, book_of, has_place, place, voyage, worth
from seamarks import asks
from seamarks.looker import good_bank, good_reach, good_trust
from seamarks.parts import spot
from seamarks.trust import trusted

DIRECTIONS = ((1, 0), (-2, 3), (0, -1), (5, 5))
# What is promised to be the same for the same water, whatever order its sides have.
OF_THE_WATER = ("corners", "area", "ways")
INTERFACE = {
    "parts": {"part": "top bottom", "plus": "one other", "times": "one other", "below": "one other",
              "spot": "x y w", "ahead": "one other", "in_order": "spots"},
    "sides": {"turn": "one other", "plain": "direction", "plain_side": "side", "holds": "side spot",
              "on_edge": "side spot", "crossing": "one other", "pushed": "side x y",
              "bearing_sides": "place one other", "range_side": "left right"},
    "water": {"corners": "sides", "ring": "sides", "some_spot": "sides", "ways": "sides", "closed": "sides",
              "area": "sides"},
    "reach": {"clash": "sides", "reach": "sides direction"},
    "trust": {"choices": "groups", "trusted": "groups"},
    "banks": {"is_bank": "corners", "bank_sides": "corners", "bank_word": "sides corners"},
    "looker": {"good_clash": "sides paper", "good_reach": "sides direction paper",
               "good_bank": "sides corners paper", "good_trust": "groups paper"},
    "asks": {"way_between": "book one other", "note_sides": "book moment", "note_groups": "book moment",
             "book_corners": "book moment", "book_area": "book moment", "book_ways": "book moment",
             "book_reach": "book moment direction", "book_clash": "book", "book_choices": "book",
             "book_bank": "book moment name"},
    "rows": {"written": "book", "read": "text"},
}
METHODS = {
    "mark": "name x y", "move": "name x y", "unmark": "name", "bank": "name corners", "level": "name",
    "sail": "x y", "right": "number x y", "strike": "number", "bearing": "moment mark one other",
    "range_note": "moment left right", "deed": "row", "undo": "", "redo": "", "deeds": "", "undone": "", "twin": "",
    "marks": "", "banks": "", "runs": "", "notes": "", "coming": "",
}


def voyages(count, seed, **more):
    chance = random.Random(seed)
    for _ in range(count):
        yield voyage(chance, **more)


def moments(book):
    return range(len(book.runs()) + 1)


def carried(triple, way):
    x, y, w = triple
    return spot(x + way[0] * w, y + way[1] * w, w)


def farthest(told, direction):
    """What a reach promises: its word, and how far where it is far."""
    return (told[0], worth(direction, place(told[1]))) if told[0] == "far" else (told[0], None)


def of_the_water(book, moment):
    told = answers(book, moment)
    reaches = [farthest(asks.book_reach(book, moment, direction), direction) for direction in DIRECTIONS]
    words = [told["bank", name][0] for name, corners in book.banks()]
    return [told[name] for name in OF_THE_WATER] + [reaches, words, told["clash"] is None]


class InterfaceTest(unittest.TestCase):
    def assert_takes(self, function, names):
        taken = list(inspect.signature(function).parameters)
        self.assertEqual([name for name in taken if name != "self"], names.split(), function)

    def test_functions(self):
        for module, functions in INTERFACE.items():
            for name, names in functions.items():
                self.assert_takes(getattr(importlib.import_module(f"seamarks.{module}"), name), names)

    def test_book(self):
        book = importlib.import_module("seamarks.book").Book
        self.assert_takes(book, "")
        for name, names in METHODS.items():
            self.assert_takes(getattr(book, name), names)


class TwoMomentsTest(ExactCase):
    def test_they_differ_by_the_runs_between_alone(self):
        for deeds in voyages(80, 81):
            book = book_of(deeds)
            for one in moments(book):
                for other in moments(book):
                    self.assert_carried(book, one, other, asks.way_between(book, one, other))

    def assert_carried(self, book, one, other, way):
        there = [carried(corner, way) for corner in asks.book_corners(book, one)]
        self.assertEqual(asks.book_corners(book, other), there)
        self.assertEqual(asks.book_area(book, other), asks.book_area(book, one))
        self.assertEqual(asks.book_ways(book, other), asks.book_ways(book, one))
        for direction in DIRECTIONS:
            word, far = farthest(asks.book_reach(book, one, direction), direction)
            further = None if far is None else far + worth(direction, way)
            self.assertEqual(farthest(asks.book_reach(book, other, direction), direction), (word, further))

    def test_a_ship_that_was_there(self):
        # Notes that are all true of one ship never clash, and she is in the water at each moment.
        for deeds in voyages(80, 82, wrong=0):
            book = book_of(deeds)
            self.assertIsNone(asks.book_clash(book))
            self.assertEqual(asks.book_choices(book), [[]])
            for moment in moments(book):
                self.assertTrue(has_place(asks.note_sides(book, moment)))


class FromTheStartTest(ExactCase):
    def test_a_mark_moved(self):
        for number, deeds in enumerate(voyages(60, 83, wrong=0.2)):
            moved = ("move", "cid", 40 + number, -33)
            at = next(at for at, deed in enumerate(deeds) if deed[:2] == ("mark", "cid"))
            start = deeds[:at] + [("mark",) + moved[1:]] + deeds[at + 1:]
            for where in (at + 1, len(deeds) // 2, len(deeds)):
                if where > at:
                    book = book_of(deeds[:where] + [moved] + deeds[where:])
                    self.assertEqual(all_answers(book), all_answers(book_of(start)))

    def test_a_run_put_right(self):
        put_right = 0
        for deeds in voyages(80, 84, wrong=0.2):
            sails = [at for at, deed in enumerate(deeds) if deed[0] == "sail"]
            for number, at in enumerate(sails):
                right = ("right", number, 11, -7)
                start = deeds[:at] + [("sail", 11, -7)] + deeds[at + 1:]
                for where in (at + 1, len(deeds)):
                    book = book_of(deeds[:where] + [right] + deeds[where:])
                    self.assertEqual(all_answers(book), all_answers(book_of(start)))
                    put_right += 1
        self.assertGreater(put_right, 100)

    def test_a_note_struck(self):
        for deeds in voyages(60, 85, wrong=0.2):
            notes = [at for at, deed in enumerate(deeds) if deed[0] in ("bearing", "range")]
            for number, at in enumerate(notes, start=1):
                never = book_of(deeds[:at] + deeds[at + 1:])
                for where in (at + 1, len(deeds)):
                    struck = book_of(deeds[:where] + [("strike", number)] + deeds[where:])
                    self.assert_alike_but_for_numbers(struck, never, number)

    def assert_alike_but_for_numbers(self, struck, never, number):
        # Behind the one that never came, each number is one less.
        one_less = lambda numbers: [told - (told > number) for told in numbers]
        self.assertEqual(one_less([told for told, note in struck.notes()]), [told for told, note in never.notes()])
        for one, other in zip(all_answers(struck), all_answers(never)):
            if one["clash"] is not None:
                one["clash"] = one_less(one["clash"])
            one["choices"] = [one_less(choice) for choice in one["choices"]]
            self.assertEqual(one, other)


class OrderTest(ExactCase):
    def test_the_order_of_deeds_changes_no_water(self):
        chance = random.Random(86)
        for deeds in voyages(60, 87, wrong=0.2):
            first = book_of(deeds)
            kinds = [[deed for deed in deeds if deed[0] in words]
                     for words in (("mark",), ("bank",), ("sail",), ("bearing", "range"))]
            for kind in (0, 1, 3):
                chance.shuffle(kinds[kind])
            head = [kinds[at] for at in chance.sample(range(3), 3)]
            second = book_of(sum(head, []) + kinds[3])
            for moment in moments(first):
                self.assertEqual(of_the_water(second, moment), of_the_water(first, moment))
            self.assertEqual(self.choices_by_deeds(second), self.choices_by_deeds(first))

    def choices_by_deeds(self, book):
        notes = dict(book.notes())
        return sorted(sorted(str(notes[number]) for number in choice) for choice in asks.book_choices(book))

    def test_notes_between_the_runs(self):
        # Each note as soon as its moment is there.
        for deeds in voyages(60, 88, wrong=0.2):
            told = [deed for deed in deeds if deed[0] in ("mark", "bank")]
            notes = [deed for deed in deeds if deed[0] in ("bearing", "range")]
            sails = [deed for deed in deeds if deed[0] == "sail"]
            for moment in range(len(sails) + 1):
                told += [note for note in notes if note[1] == moment] + sails[moment:moment + 1]
            first, second = book_of(deeds), book_of(told)
            for moment in moments(first):
                self.assertEqual(of_the_water(second, moment), of_the_water(first, moment))

    def test_runs_in_another_order(self):
        # Where nothing was noted between, the moments at both ends don't tell them apart.
        for deeds in voyages(60, 89, wrong=0.2):
            sails = [deed for deed in deeds if deed[0] == "sail"]
            ends = [deed for deed in deeds
                    if deed[0] in ("mark", "bank") or deed[0] != "sail" and deed[1] in (0, len(sails))]
            marks = [deed for deed in ends if deed[0] in ("mark", "bank")]
            notes = ends[len(marks):]
            first, second = book_of(marks + sails + notes), book_of(marks + sails[::-1] + notes)
            for moment in (0, len(sails)):
                self.assertEqual(answers(second, moment), answers(first, moment))


class ShownToTheLookerTest(ExactCase):
    def test_all_that_is_told(self):
        words = set()
        for deeds in voyages(80, 90, wrong=0.25):
            book = book_of(deeds)
            for moment in moments(book):
                sides = asks.note_sides(book, moment)
                groups = asks.note_groups(book, moment)
                for direction in DIRECTIONS:
                    told = asks.book_reach(book, moment, direction)
                    words.add(told[0])
                    self.assertIs(good_reach(sides, direction, told), True)
                for name, corners in book.banks():
                    told = asks.book_bank(book, moment, name)
                    words.add(told[0])
                    self.assertIs(good_bank(sides, list(corners), told), True)
                self.assertIs(good_trust(groups, trusted(groups)), True)
        self.assertEqual(words, {"none", "open", "far", "cannot", "must", "can"})

    def test_far_is_as_far_as_any_corner(self):
        for deeds in voyages(60, 91):
            book = book_of(deeds)
            for direction in DIRECTIONS:
                told = asks.book_reach(book, 0, direction)
                if told[0] == "far":
                    reached = [worth(direction, place(corner)) for corner in asks.book_corners(book, 0)]
                    most = worth(direction, place(told[1]))
                    self.assertTrue(all(far <= most for far in reached))
                    self.assertIsInstance(most, Fraction)


if __name__ == "__main__":
    unittest.main()
