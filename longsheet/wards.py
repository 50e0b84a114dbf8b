"""Wards: books of which all written rows are kept by checks, whatever is done."""

from longsheet.asks import column_asked, entry_at
from longsheet.book import Book
from longsheet.changes import places_behind
from longsheet.checks import are_checks, fits_sheet, with_tests
from longsheet.errors import Nothing, Refused, Stuck, Unasked, Wrong
from longsheet.formulas import with_reads
from longsheet.safe import outcome, safe_order, stuck

COLUMNS_MORE = {"put": 1, "strike": -1}


class Ward:
    """A Book, and the checks that keep each of its written rows."""

    def __init__(self, book, checks):
        if not isinstance(book, Book):
            raise Wrong(0)
        if not are_checks(checks):
            raise Wrong(1)
        self._held = book.copied()
        self._checks = list(checks)
        _must_fit(self._checks, book.sheet)
        # Where columns go, tests go along: what is safe stays so, and the least safe order is the same one.
        self._order = safe_order(book.sheet, self._checks)
        if self._order is None:
            raise Stuck(stuck(book.sheet, self._checks)[0])
        _must_be_kept(_refused_rows(self._held, self._checks, self._order))
        # The checks ahead of each edit that the Ward has done, and behind each one that it has undone.
        self._done = []
        self._undone = []

    def __eq__(self, other):
        return isinstance(other, Ward) and self._held == other._held and self._checks == other._checks

    def do(self, edit):
        """Does an edit, if it leaves all written rows kept."""
        later = self._held.copied()
        later.do(edit)
        self._go(later, [edit])

    def do_all(self, edits):
        """Does a list or a tuple of edits as one, if they leave all written rows kept."""
        later = self._held.copied()
        later.do_all(edits)
        self._go(later, edits)

    def refusals(self, edit):
        """The ascending list of the tuples (row, at) of the written rows that would not be kept behind an edit."""
        later = self._held.copied()
        later.do(edit)
        return _refused_rows(later, self._led_along([edit], later.sheet), self._order)

    def back(self):
        """Undoes the last edit that the Ward has done and that stands, and returns it."""
        if not self._done:
            raise Nothing()
        self._undone.append(self._checks)
        self._checks = self._done.pop()
        return self._held.back()

    def again(self):
        """Does the edit anew that the Ward has undone last, and returns it."""
        if not self._undone:
            raise Nothing()
        self._done.append(self._checks)
        self._checks = self._undone.pop()
        return self._held.again()

    def book(self):
        """A copy of the Book."""
        return self._held.copied()

    def checks(self):
        """The list of the checks as they are now."""
        return list(self._checks)

    def order(self):
        """The least safe order."""
        return list(self._order)

    def copied(self):
        """A Ward in the same state, with what can be undone and done anew."""
        other = Ward(self._held, self._checks)
        other._done = list(self._done)
        other._undone = list(self._undone)
        return other

    def _go(self, later, edits):
        checks = self._led_along(edits, later.sheet)
        _must_be_kept(_refused_rows(later, checks, self._order))
        self._done.append(self._checks)
        self._undone.clear()
        self._checks = checks
        self._held = later

    def _led_along(self, edits, sheet):
        """The checks as they are behind edits that have led to a sheet."""
        places = _places_behind_all(edits, len(self._held.sheet))
        checks = [_led_check(check, places) for check in self._checks]
        _must_fit(checks, sheet)
        return checks


def _must_fit(checks, sheet):
    """Raises Unasked for the first check that asks what is no input column; a column that is struck is None here."""
    for at, check in enumerate(checks):
        if not fits_sheet(check, sheet):
            raise Unasked(at)


def _must_be_kept(refused):
    if refused:
        raise Refused(refused[0][0], refused[0][1])


def _refused_rows(book, checks, order):
    """The list of tuples of each written row that is not kept and the index of the check that refuses it."""
    sheet, contents = book.sheet, book.contents()
    found = []
    for row in range(book.rows):
        entry = entry_at(sheet, contents, row)
        if any([value is not None for value in list(entry.values())]):
            told = outcome(checks, order, entry)
            if told[0] != "kept":
                found.append((row, told[1]))
    return found


def _places_behind_all(edits, many):
    """The list of the places to which edits, one behind the other, lead so many columns."""
    places = list(range(many))
    for edit in edits:
        following = places_behind(edit, many)
        places = [None if place is None else following[place] for place in places]
        many = many + COLUMNS_MORE.get(edit[0], 0)
    return places


def _led_check(check, places):
    return with_tests(check, lambda test: _led_test(test, places))


def _led_test(test, places):
    place = places[column_asked(test)]
    if test[0] == "empty":
        return ("empty", place)
    _, formula, sign, number = test
    return ("asks", with_reads(formula, [("name", ("at", place), ("by", 0))]), sign, number)
