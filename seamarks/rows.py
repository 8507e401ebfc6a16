"""The rows of a book: the deeds that stand as a text, and a book read from such a text."""

from seamarks.book import Book
from seamarks.errors import BadRow, MarkError

FIGURES = "0123456789"
MOST_FIGURES = 9
# What stands behind each word but a bank's: one letter for each name (a) and number (n).
FORMS = {
    "mark": "ann",
    "move": "ann",
    "unmark": "a",
    "level": "a",
    "sail": "nn",
    "right": "nnn",
    "bearing": "nannnn",
    "range": "naa",
    "strike": "n",
}


def words_of(value):
    if not isinstance(value, tuple):
        return [str(value)]
    words = []
    for inner in value:
        words.extend(words_of(inner))
    return words


def written_row(deed):
    row = " ".join(words_of(deed))
    return f"{row}\n"


def written(book):
    return "".join([written_row(deed) for deed in book.deeds()])


def is_number(word):
    figures = word[1:] if word.startswith("-") else word
    if len(figures) < 1 or len(figures) > MOST_FIGURES:
        return False
    if not all([figure in FIGURES for figure in figures]):
        return False
    return figures[0] != "0" or word == "0"


def form_of(words):
    # A bank has as many numbers as it likes, two for each corner; an unknown word has no form.
    if words[0] == "bank" and len(words) % 2 == 0:
        return "a" + "n" * (len(words) - 2)
    return FORMS.get(words[0])


def read_values(words, form):
    # None where they are not of this form. Whether a name is one is for the deed to refuse.
    if len(words) != len(form):
        return None
    values = []
    for at in range(len(words)):
        if form[at] == "a":
            values.append(words[at])
        elif is_number(words[at]):
            values.append(int(words[at]))
        else:
            return None
    return values


def pairs_of(numbers):
    return tuple([(numbers[at], numbers[at + 1]) for at in range(0, len(numbers), 2)])


def deed_of(row):
    words = row.split(" ")
    form = form_of(words)
    if form is None:
        return None
    values = read_values(words[1:], form)
    if values is None:
        return None
    if words[0] == "bank":
        return ("bank", values[0], pairs_of(values[1:]))
    if words[0] == "bearing":
        return ("bearing", values[0], values[1], (values[2], values[3]), (values[4], values[5]))
    return tuple(words[:1] + values)


def do_row(book, row, at):
    deed = deed_of(row)
    if deed is None:
        raise BadRow(at)
    try:
        book.deed(deed)
    except MarkError as refusal:
        raise BadRow(at) from refusal


def read(text):
    rows = text.split("\n")
    book = Book()
    last = len(rows) - 1
    for at in range(last):
        do_row(book, rows[at], at)
    # Behind the last line feed nothing is left; what is, is a row without one.
    if rows[last] != "":
        raise BadRow(last)
    return book
