"""The book: marks, banks, runs and notes, by deeds that can be undone and done again."""

from seamarks.deeds import after, nothing_yet
from seamarks.errors import NothingLeft


class Book:
    def __init__(self):
        self.state = nothing_yet()
        # Pairs of a deed and what stood ahead of it, the last one last.
        self.past = []
        # Pairs of an undone deed and what stood behind it, the next one last.
        self.later = []

    def mark(self, name, x, y):
        self.deed(("mark", name, x, y))

    def move(self, name, x, y):
        self.deed(("move", name, x, y))

    def unmark(self, name):
        self.deed(("unmark", name))

    def bank(self, name, corners):
        self.deed(("bank", name, tuple(corners)))

    def level(self, name):
        self.deed(("level", name))

    def sail(self, x, y):
        self.deed(("sail", x, y))

    def right(self, number, x, y):
        self.deed(("right", number, x, y))

    def bearing(self, moment, mark, one, other):
        return self.deed(("bearing", moment, mark, one, other))

    def range_note(self, moment, left, right):
        return self.deed(("range", moment, left, right))

    def strike(self, number):
        self.deed(("strike", number))

    def deed(self, row):
        number = self.coming()
        fresh = after(self.state, row)
        self.past.append((row, self.state))
        self.state = fresh
        self.later = []
        # Notes alone take a number, and theirs is the one that was coming.
        return None if self.coming() == number else number

    def step(self, taken, given):
        # Back and forth alike: what stands changes places with what is kept beside the deed.
        pair = taken.pop()
        given.append((pair[0], self.state))
        self.state = pair[1]
        return pair[0]

    def undo(self):
        if self.past == []:
            raise NothingLeft("there is no deed to undo")
        return self.step(self.past, self.later)

    def redo(self):
        if self.later == []:
            raise NothingLeft("there is no deed to do again")
        return self.step(self.later, self.past)

    def deeds(self):
        return [pair[0] for pair in self.past]

    def undone(self):
        return [pair[0] for pair in reversed(self.later)]

    def twin(self):
        other = Book()
        other.state = self.state
        other.past = list(self.past)
        other.later = list(self.later)
        return other

    def marks(self):
        places = self.state["marks"]
        return [(name, places[name][0], places[name][1]) for name in sorted(list(places))]

    def banks(self):
        return sorted(self.state["banks"].items())

    def runs(self):
        runs = self.state["runs"]
        return [runs[number] for number in range(len(runs))]

    def notes(self):
        return sorted(self.state["notes"].items())

    def coming(self):
        return self.state["coming"]
