"""A desk: a book that is led and asked by lines of text."""

from longsheet.book import Book
from longsheet.errors import NoCommand, NoText
from longsheet.notation import read_formula, show_at, show_formula
from longsheet.readers import read_cell
from longsheet.sheets import PLACES, is_place
from longsheet.texts import BETWEEN, show_contents, show_grid, show_sheet, show_value
from longsheet.words import count_of, integer_of

COUNTS_BEHIND = {"rows": 1, "strike": 1, "move": 2, "exchange": 2, "copy": 3}


class Desk:
    """A Book of a sheet, with rings, and the commands that lead and ask it."""

    def __init__(self, sheet):
        self._book = Book(sheet)

    def execute(self, line):
        """What a command tells."""
        if not isinstance(line, str):
            raise NoCommand()
        words = line.split(" ")
        if words == ["back"]:
            self._book.back()
        elif words == ["again"]:
            self._book.again()
        elif words[0] in COUNTS_BEHIND or words[0] in ("value", "set", "put"):
            self._book.do(_edit_of(words, self._book.rows))
        else:
            return _answer(words, self._book)
        return str(len(self._book))

    def book(self):
        """A copy of the Book."""
        return self._book.copied()


def _edit_of(words, rows):
    """The edit that the words of a line tell at so many rows."""
    word = words[0]
    if word in COUNTS_BEHIND:
        return (word,) + _counts(words[1:], COUNTS_BEHIND[word])
    if word == "value":
        if len(words) != 4:
            raise NoCommand()
        return (word, _cell(words[1:3], rows), _number(words[3]))
    if word == "set":
        column, place = _column_and_place(words[1:3])
        return (word, column, place, _formula(" ".join(words[3:])))
    texts = " ".join(words[2:]).split(BETWEEN)
    if len(texts) != len(PLACES):
        raise NoCommand()
    return (word,) + _counts(words[1:2], 1) + (tuple([_formula(text) for text in texts]),)


def _answer(words, book):
    """The text that a question tells of a Book."""
    sheet, contents = book.sheet, book.contents()
    if words == ["sheet"]:
        return show_sheet(sheet)
    if words == ["contents"]:
        return show_contents(contents)
    if words == ["grid"]:
        return show_grid(sheet, book.rows, contents)
    if words[0] == "cell":
        return show_value(book.value(_cell(words[1:], book.rows)))
    if words[0] == "formula":
        column, place = _column_and_place(words[1:])
        return show_formula(sheet[column][PLACES.index(place)])
    if words[0] == "at":
        column, row = _counts(words[1:], 2)
        return show_at(sheet[column][1], column, row)
    raise NoCommand()


def _counts(words, many):
    counts = [count_of(word) for word in words]
    if len(counts) != many or None in counts:
        raise NoCommand()
    return tuple(counts)


def _cell(words, rows):
    try:
        return read_cell(" ".join(words), rows)
    except NoText:
        raise NoCommand() from None


def _number(word):
    number = integer_of(word)
    if number is None and word != "-":
        raise NoCommand()
    return number


def _column_and_place(words):
    if len(words) != 2 or not is_place(words[1]):
        raise NoCommand()
    return (_counts(words[:1], 1)[0], words[1])


def _formula(text):
    try:
        return read_formula(text)
    except NoText:
        raise NoCommand() from None
