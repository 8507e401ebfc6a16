"""The refusals: one class each, all straight under MarkError."""


class MarkError(ValueError):
    pass


# A name is not one to eight letters from a to z.
class BadName(MarkError):
    pass


# A mark or a bank has this name already.
class Taken(MarkError):
    pass


# A place lies beyond the bounds.
class BadPlace(MarkError):
    pass


# There are as many as can be.
class Full(MarkError):
    pass


# No mark has this name.
class NoMark(MarkError):
    pass


# Both marks of a range are, or would be, at one place.
class Same(MarkError):
    pass


# A note that stands tells of this mark.
class Needed(MarkError):
    pass


# The corners are not those of a bank.
class BadBank(MarkError):
    pass


# No bank has this name.
class NoBank(MarkError):
    pass


# A run lies beyond the bounds.
class BadRun(MarkError):
    pass


# No run has this number.
class NoRun(MarkError):
    pass


# There is no such moment.
class NoMoment(MarkError):
    pass


# A direction is nought or beyond the bounds.
class BadWay(MarkError):
    pass


# The second direction is not to the left of the first.
class BadTurn(MarkError):
    pass


# No note that stands has this number.
class NoNote(MarkError):
    pass


# There is nothing to undo, or nothing to do again.
class NothingLeft(MarkError):
    pass


# A row of a written book is refused; at is its number, from 0.
class BadRow(MarkError):
    def __init__(self, at):
        MarkError.__init__(self, f"row {at} is refused")
        self.at = at
