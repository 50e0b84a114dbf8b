"""[122] book: edits, contents that go along, and what is undone and done anew."""

import unittest

from longsheet.book import Book
from longsheet.edits import copy_columns, exchange, move_column, put_column, set_formula, strike_column
from longsheet.errors import BadEdit, NoCell, NoColumn, NoFit, NoInput, Nothing, Ring, SheetError, Stopped, Wrong
from longsheet.reckoning import is_ring, on_rings, values
from longsheet.sheets import Sheet
from tests.test_reckoning import sheet_of
from tests.things import FAR, NONE, Draw, more_values, nested

GIVEN = ("input",)
PAID = sheet_of("empty | input | total(.[:])", "input | sum(.[-1], <1[0]) | . last 0")
# A ring in the body, from two rows on.
RINGED = sheet_of("input | input | empty", "empty | $2[1] | empty", "empty | $1[-1] | empty")
INNER = ("sum", (GIVEN,))
DONE = {"set": set_formula, "put": put_column, "strike": strike_column, "move": move_column, "exchange": exchange,
        "copy": copy_columns}


def state(book):
    return (book.sheet.columns(), book.rows, book.rings, book.contents(), book.log(), len(book))


def filled(sheet=PAID, rows=2, contents=(((0, 0), 5), ((0, 1), -2), ((1, -1), 100)), **more):
    book = Book(sheet, rows=rows, **more)
    for address, number in contents:
        book.do(("value", address, number))
    return book


class BookTests(unittest.TestCase):
    def refused(self, error, told, asked, *args):
        with self.assertRaises(error, msg=repr(args)) as caught:
            asked(*args)
        self.assertEqual(list(vars(caught.exception).values()), told, repr(args))

    def unchanged(self, book, error, told, edit):
        """An edit is refused, by itself and in a do_all, and nothing changes: what can be undone and done anew neither."""
        kept = state(book)
        self.refused(error, told, book.do, edit)
        self.assertEqual(state(book), kept)
        if error is not BadEdit:
            self.refused(Stopped, [0], book.do_all, [edit])
            ahead = ("rows", book.rows)
            self.refused(Stopped, [1 if book.rings else 0], book.do_all, (ahead, edit))
        self.assertEqual(state(book), kept)


class Making(BookTests):
    def test_first_state(self):
        book = Book(PAID)
        self.assertEqual(state(book), (PAID.columns(), 0, True, {}, [], 0))
        self.assertEqual(book.sheet, PAID)
        self.assertIsInstance(book.sheet, Sheet)
        book = Book(PAID, rows=30, rings=False)
        self.assertEqual(state(book), (PAID.columns(), 30, False, {}, [], 0))
        self.assertIs(Book(PAID, rings=True).rings, True)

    def test_wrong(self):
        for thing in more_values() + [nested(30), PAID.columns(), Book(PAID)]:
            if not isinstance(thing, Sheet):
                self.refused(Wrong, [0], Book, thing)
                self.refused(Wrong, [0], lambda: Book(thing, rows=None, rings=None))
        for thing in more_values() + [31, -1, "2", 10 ** 59]:
            if not (type(thing) is int and 0 <= thing <= 30):
                self.refused(Wrong, [1], lambda: Book(PAID, rows=thing))
                self.refused(Wrong, [1], lambda: Book(PAID, rings=None, rows=thing))
        for thing in more_values():
            if not isinstance(thing, bool):
                self.refused(Wrong, [2], lambda: Book(PAID, rings=thing))
                self.refused(Wrong, [2], lambda: Book(PAID, rings=thing, rows=3))
        self.refused(TypeError, [], lambda: Book(PAID, 3))

    def test_a_sheet_with_a_ring(self):
        book = Book(RINGED, rows=3, rings=False)
        self.assertEqual([book.value((1, 0)), book.value((0, 0)), book.rings], ["#ring", None, False])

    def test_properties_are_read_only(self):
        book = Book(PAID)
        for name in ("sheet", "rows", "rings"):
            with self.assertRaises(AttributeError):
                setattr(book, name, getattr(book, name))


class Edits(BookTests):
    BAD = [
        ("rows",), ("rows", 31), ("rows", -1), ("rows", True), ("rows", None), ("rows", "2"), ("rows", 1, 2), ["rows", 1], ("row", 1),
        ("value", (0, 0)), ("value", (0, 0), True), ("value", (0, 0), FAR + 1), ("value", (0, 0), -FAR - 1), ("value", (0, 0), "1"),
        ("value", (0, 0), 1, 2), ["value", (0, 0), 1], ("value", (0, 0), []), ("value",), ("value", 1),
        ("set", 0, "body"), ("set", 0, "bodies", NONE), ("set", 0, None, NONE), ("set", 0, ["body"], NONE), ("set", True, "body", NONE),
        ("set", "0", "body", NONE), ("set", 0, "body", None), ("set", 0, "body", ["empty"]), ("set", 0, "body", ("number", FAR + 1)),
        ("set", 0, "body", ("sum", [NONE])), ("set", None, "body", NONE), ("set", 0, "body", NONE, 1), ["set", 0, "body", NONE],
        ("put", 0), ("put", 0, [NONE, NONE, NONE]), ("put", 0, (NONE, NONE)), ("put", 0, (NONE,) * 4), ("put", 0, (NONE, NONE, None)),
        ("put", False, (NONE, NONE, NONE)), ("put", "0", (NONE, NONE, NONE)), ("put", 0, (NONE, ["empty"], NONE)), ("put", 0, NONE),
        ("put", None, (NONE, NONE, NONE)), ("put", 0, (NONE, NONE, NONE), 1), ("put", 0, "abc"),
        ("strike",), ("strike", True), ("strike", None), ("strike", "0"), ("strike", 0, 1), ["strike", 0], ("strike", (0,)),
        ("move", 0), ("move", 0, True), ("move", False, 0), ("move", 0, None), ("move", 0, 1, 2), ("move", "0", 1), ["move", 0, 1],
        ("exchange", 0), ("exchange", 0, True), ("exchange", 0, 1, 1), ("exchange", [0], 1), ("exchange", 0, "1"),
        ("copy", 0, 1), ("copy", 0, 1, 0), ("copy", 0, 1, -1), ("copy", 0, 1, True), ("copy", 0, 1, None), ("copy", True, 1, 1),
        ("copy", 0, False, 1), ("copy", 0, 1, 1, 1), ["copy", 0, 1, 1], (), ("back",), ("again",), ("rowss", 1), (None, 1), (("rows",), 1),
        (1, 2), ("do_all", [("rows", 1)]), (("rows", 1),), [("rows", 1)],
    ]

    def test_bad_edits(self):
        book = filled()
        for edit in self.BAD + more_values() + [nested(30)]:
            if edit not in [("rows", 1), ("value", (0, 0), 1), ("strike", 0)]:
                self.unchanged(book, BadEdit, [], edit)
        for edits in [[edit] for edit in self.BAD] + [(("rows", 1), edit) for edit in self.BAD]:
            self.refused(BadEdit, [], book.do_all, edits)

    def test_no_input(self):
        book = filled()
        for address in [(0, -1), (0, 2), (1, 0), (1, 2), (2, 0), (0, 3), (True, 0), (0, False), (0, -2), [0, 0], None, "0 0", (0,), (0, 0, 0),
                        {}, nested(30)]:
            for number in (1, None):
                self.unchanged(book, NoInput, [address], ("value", address, number))

    def test_no_column_and_no_fit(self):
        book, none = filled(), (NONE, NONE, NONE)
        above = ("name", ("by", 0), ("by", -1))
        for error, told, edit in (
                (NoColumn, [2], ("set", 2, "body", above)), (NoColumn, [-1], ("set", -1, "foot", GIVEN)),
                (NoFit, [(1, "foot")], ("set", 1, "foot", GIVEN)), (NoFit, [(1, "head")], ("set", 1, "head", above)),
                (NoFit, [(0, "body")], ("set", 0, "body", INNER)), (NoColumn, [3], ("put", 3, none)), (NoColumn, [-1], ("put", -1, none)),
                (NoColumn, [3], ("put", 3, (above, above, above))), (NoFit, [(2, "head")], ("put", 2, (above, NONE, GIVEN))),
                (NoFit, [(0, "foot")], ("put", 0, (NONE, above, above))), (NoFit, [(1, "body")], ("put", 1, (NONE, INNER, above))),
                (NoColumn, [2], ("strike", 2)), (NoColumn, [-1], ("strike", -1)), (NoColumn, [5], ("move", 5, 9)),
                (NoColumn, [2], ("move", 0, 2)), (NoColumn, [-1], ("move", -1, 7)), (NoColumn, [2], ("exchange", 2, 3)),
                (NoColumn, [3], ("exchange", 1, 3)), (NoColumn, [2], ("copy", 2, 3, 1)), (NoColumn, [2], ("copy", 0, 2, 5)),
                (NoColumn, [2], ("copy", 1, 0, 2)), (NoColumn, [2], ("copy", 0, 1, 2)), (NoColumn, [10 ** 59], ("strike", 10 ** 59)),
                (NoColumn, [10 ** 58 - 1], ("copy", 0, 0, 10 ** 58))):
            self.unchanged(book, error, told, edit)

    def test_a_full_sheet(self):
        none = (NONE, NONE, NONE)
        book = Book(Sheet([none] * 8))
        for at in (0, 8, 9, -1):
            self.unchanged(book, BadEdit, [], ("put", at, none))
            self.unchanged(book, BadEdit, [], ("put", at, (NONE, INNER, NONE)))
        self.refused(Stopped, [0], book.do_all, [("put", 0, none)])
        self.refused(Stopped, [2], book.do_all, [("strike", 0), ("put", 0, none), ("put", 0, none), ("strike", 99)])
        book.do_all([("strike", 0), ("put", 7, none)])
        self.assertEqual(len(book.sheet), 8)
        book = Book(Sheet([none] * 7))
        book.do(("put", 7, none))
        self.refused(BadEdit, [], book.do, ("put", 0, none))
        self.refused(Stopped, [1], Book(Sheet([none] * 7)).do_all, (("put", 0, none), ("put", 0, none)))

    def test_each_word_does_what_its_function_does(self):
        draw = Draw(1220)
        done = {}
        for _ in range(300):
            sheet, rows = draw.sheet(), draw.number(0, 4)
            book = Book(sheet, rows=rows)
            edit = draw.edit(sheet, rows)
            if edit[0] in DONE:
                try:
                    told = DONE[edit[0]](sheet, *edit[1:])
                except SheetError as error:
                    self.refused(type(error), list(vars(error).values()), book.do, edit)
                    continue
                self.assertIsNone(book.do(edit))
                self.assertEqual([book.sheet, book.rows, book.log()], [told, rows, [edit]])
                done[edit[0]] = done.get(edit[0], 0) + 1
        self.assertEqual(sorted(done), sorted(DONE))


class Contents(BookTests):
    def check(self, edit, told, sheet=PAID):
        book = filled(sheet) if sheet == PAID else sheet
        book.do(edit)
        self.assertEqual(list(book.contents().items()), told)
        return book

    def test_along_with_columns(self):
        none = (NONE, NONE, NONE)
        self.check(("put", 0, none), [((1, 0), 5), ((1, 1), -2), ((2, -1), 100)])
        self.check(("put", 1, (GIVEN, GIVEN, NONE)), [((0, 0), 5), ((0, 1), -2), ((2, -1), 100)])
        self.check(("put", 2, none), [((0, 0), 5), ((0, 1), -2), ((1, -1), 100)])
        self.check(("strike", 0), [((0, -1), 100)])
        self.check(("strike", 1), [((0, 0), 5), ((0, 1), -2)])
        self.check(("move", 0, 1), [((0, -1), 100), ((1, 0), 5), ((1, 1), -2)])
        self.check(("move", 1, 1), [((0, 0), 5), ((0, 1), -2), ((1, -1), 100)])
        self.check(("exchange", 1, 0), [((0, -1), 100), ((1, 0), 5), ((1, 1), -2)])

    def test_with_formulas_set(self):
        self.check(("set", 0, "body", NONE), [((1, -1), 100)])
        self.check(("set", 0, "body", GIVEN), [((0, 0), 5), ((0, 1), -2), ((1, -1), 100)])
        self.check(("set", 1, "head", ("number", 3)), [((0, 0), 5), ((0, 1), -2)])
        book = self.check(("set", 1, "body", GIVEN), [((0, 0), 5), ((0, 1), -2), ((1, -1), 100)])
        self.check(("set", 0, "body", NONE), [((1, -1), 100)], book)
        self.check(("set", 0, "body", GIVEN), [((1, -1), 100)], book)

    def test_with_a_copy(self):
        # Column 1 gets the formulas of column 0: its head is no input any more, its body is one, and empty.
        self.check(("copy", 0, 1, 1), [((0, 0), 5), ((0, 1), -2)])
        self.check(("copy", 1, 0, 1), [((1, -1), 100)])
        both = sheet_of("input | input | empty", "input | input | . last 0")
        book = filled(both, 1, (((0, -1), 1), ((0, 0), 2), ((1, -1), 3), ((1, 0), 4)))
        self.check(("copy", 0, 1, 1), [((0, -1), 1), ((0, 0), 2), ((1, -1), 3), ((1, 0), 4)], book)

    def test_with_rows(self):
        book = self.check(("rows", 1), [((0, 0), 5), ((1, -1), 100)])
        self.check(("rows", 3), [((0, 0), 5), ((1, -1), 100)], book)
        self.check(("rows", 0), [((1, -1), 100)], book)
        self.assertEqual([book.rows, book.back(), book.contents()], [0, ("rows", 0), {(0, 0): 5, (1, -1): 100}])

    def test_with_values(self):
        self.check(("value", (0, 1), None), [((0, 0), 5), ((1, -1), 100)])
        self.check(("value", (0, 1), 0), [((0, 0), 5), ((0, 1), 0), ((1, -1), 100)])
        book = self.check(("value", (0, 0), -FAR), [((0, 0), -FAR), ((0, 1), -2), ((1, -1), 100)])
        self.check(("value", (0, 0), FAR), [((0, 0), FAR), ((0, 1), -2), ((1, -1), 100)], book)
        self.check(("value", (0, 0), None), [((0, 1), -2), ((1, -1), 100)], book)
        self.check(("value", (0, 0), None), [((0, 1), -2), ((1, -1), 100)], book)
        self.assertEqual(len(book), 7)


class Values(BookTests):
    def test_value(self):
        book = filled()
        self.assertEqual({address: book.value(address) for address in PAID.addresses(2)}, values(PAID, 2, book.contents()))
        book.do(("value", (0, 0), 50))
        self.assertEqual([book.value((1, 2)), book.back()[0], book.value((1, 2)), book.again()[0], book.value((1, 2))],
                         [148, "value", 103, "value", 148])
        book.do(("rows", 1))
        self.assertEqual([book.value((0, 1)), book.value((1, 1))], [50, 150])

    def test_no_cell(self):
        book = filled()
        for thing in more_values() + [(2, 0), (0, 3), (0, -2), (-1, 0), (True, 0), (0, False), [0, 0], (0, 0, 0), nested(30)]:
            if isinstance(thing, tuple) and thing in PAID.addresses(2) and not any(isinstance(part, bool) for part in thing):
                book.value(thing)
            else:
                self.refused(NoCell, [thing], book.value, thing)
        book.do(("rows", 1))
        self.refused(NoCell, [(0, 2)], book.value, (0, 2))
        book.do(("strike", 1))
        self.refused(NoCell, [(1, 0)], book.value, (1, 0))

    def test_told_things_may_be_changed(self):
        book = filled()
        book.contents()[(0, 0)] = 9
        book.contents().clear()
        book.log().clear()
        self.assertEqual([book.contents(), len(book.log()), book.value((0, 0))], [{(0, 0): 5, (0, 1): -2, (1, -1): 100}, 3, 5])
        edits = [("value", (0, 0), 7), ("rows", 1)]
        book.do_all(edits)
        edits[0] = ("strike", 0)
        edits.append(None)
        self.assertEqual([book.log()[3], book.back()], [(("value", (0, 0), 7), ("rows", 1))] * 2)


class Undoing(BookTests):
    def test_behind_each_word(self):
        draw = Draw(1221)
        for _ in range(150):
            book = Book(draw.sheet(), rows=draw.number(0, 4), rings=draw.one([True, False]))
            states, edits = [state(book)], []
            for _ in range(8):
                edit = draw.edit(book.sheet, book.rows)
                try:
                    if draw.number(0, 3) == 0:
                        edit = tuple([edit, draw.edit(book.sheet, book.rows)])
                        book.do_all(list(edit))
                    else:
                        book.do(edit)
                except SheetError:
                    self.assertEqual(state(book), states[-1])
                    continue
                edits.append(edit)
                states.append(state(book))
                self.assertEqual([book.log(), len(book)], [edits, len(edits)])
            told = {address: book.value(address) for address in book.sheet.addresses(book.rows)}
            self.assertEqual(told, values(book.sheet, book.rows, book.contents()))
            for turn in range(2):
                for at in range(len(edits), 0, -1):
                    self.assertEqual(book.back(), edits[at - 1])
                    self.assertEqual(state(book), states[at - 1])
                self.refused(Nothing, [], book.back)
                for at, edit in enumerate(edits):
                    self.assertEqual(book.again(), edit)
                    self.assertEqual(state(book), states[at + 1])
                self.refused(Nothing, [], book.again)
            self.assertEqual({address: book.value(address) for address in told}, told)

    def test_behind_refused_edits(self):
        book = filled()
        self.refused(Nothing, [], book.again)
        book.back()
        for edit in (("rows", 31), ("strike", 5), ("value", (1, 0), 1), None):
            self.refused((BadEdit, NoColumn, NoInput), list(vars_of(book, edit)), book.do, edit)
        self.refused(Stopped, [1], book.do_all, [("rows", 3), ("strike", 9)])
        self.refused(BadEdit, [], book.do_all, None)
        self.assertEqual([book.again(), book.contents()[(1, -1)]], [("value", (1, -1), 100), 100])
        self.refused(Nothing, [], book.again)
        book.back()
        book.do(("rows", 2))
        self.refused(Nothing, [], book.again)
        self.assertEqual([book.back(), book.back(), book.back()], [("rows", 2), ("value", (0, 1), -2), ("value", (0, 0), 5)])
        self.refused(Nothing, [], book.back)
        self.assertEqual(book, Book(PAID, rows=2))

    def test_where_there_is_none(self):
        for book in (Book(PAID), Book(RINGED, rows=3, rings=False)):
            self.refused(Nothing, [], book.back)
            self.refused(Nothing, [], book.again)


def vars_of(book, edit):
    """The fields of the error that a copy of a Book raises for an edit."""
    try:
        book.copied().do(edit)
    except SheetError as error:
        return vars(error).values()
    return ()


class DoAll(BookTests):
    def test_lists_and_tuples(self):
        edits = [("value", (0, 0), 9), ("move", 0, 1), ("rows", 1), ("value", (1, 0), 4)]
        for given in (edits, tuple(edits)):
            book, other = filled(), filled()
            self.assertIsNone(book.do_all(given))
            for edit in edits:
                other.do(edit)
            self.assertEqual([book, len(book), len(other), book.log()[3:]], [other, 4, 7, [tuple(edits)]])
            self.assertEqual([book.back(), state(book)], [tuple(edits), state(filled())])
            self.assertEqual([book.again(), book], [tuple(edits), other])

    def test_of_none(self):
        book = filled()
        for given in ([], ()):
            book.do_all(given)
        self.assertEqual([len(book), book.log()[3:], book.back(), len(book), book.back(), book.again()], [5, [(), ()], (), 4, (), ()])
        book = Book(RINGED, rows=3, rings=False)
        book.do_all([])
        self.assertEqual(book.log(), [()])

    def test_stopped_at_each_index(self):
        good = [("rows", 3), ("value", (0, 2), 1), ("strike", 1), ("put", 1, (GIVEN, GIVEN, NONE))]
        for bad in (("strike", 9), ("value", (0, -1), 1), ("set", 0, "foot", GIVEN), ("copy", 0, 0, 4)):
            for at in range(5):
                book = filled()
                kept = state(book)
                self.refused(Stopped, [at], book.do_all, good[:at] + [bad] + good[at:])
                self.refused(Stopped, [at], book.do_all, good[:at] + [bad, bad])
                self.assertEqual(state(book), kept)

    def test_each_by_what_stands_then(self):
        book = filled()
        self.refused(Stopped, [1], book.do_all, [("strike", 0), ("strike", 1)])
        self.refused(Stopped, [1], book.do_all, [("rows", 1), ("value", (0, 1), 1)])
        book.do_all([("rows", 4), ("value", (0, 3), 8)])
        self.assertEqual(book.contents()[(0, 3)], 8)

    def test_no_lists_of_edits(self):
        book = filled()
        for thing in more_values() + [nested(30), ("rows", 1), {("rows", 1): 1}, {("rows", 1)}, [[("rows", 1)]], "rows", [("rows", 31)],
                                      [("rows", 1), None], ([("rows", 1)],), [("rows", 1), (("rows", 1),)], [("strike", 99), ("rows", -1)]]:
            if isinstance(thing, (list, tuple)) and all(edit == ("rows", 1) for edit in thing):
                continue
            self.refused(BadEdit, [], book.do_all, thing)
        self.assertEqual(state(book), state(filled()))


class Rings(BookTests):
    def ring(self, book, asked, *args):
        kept = state(book)
        with self.assertRaises(Ring) as caught:
            asked(*args)
        self.assertEqual(state(book), kept)
        return caught.exception.ring

    def test_edits_that_close_a_ring(self):
        book = filled(rings=False)
        closed = ("set", 0, "body", ("name", ("at", 1), ("by", 0)))
        ring = self.ring(book, book.do, closed)
        self.assertIs(is_ring(set_formula(PAID, *closed[1:]), 2, ring), True)
        self.refused(Stopped, [1], book.do_all, [("rows", 1), closed, ("strike", 1)])
        book.do(("rows", 0))
        book.do(closed)
        self.assertIs(is_ring(book.sheet, 1, self.ring(book, book.do, ("rows", 1))), True)
        open_book = filled()
        open_book.do(closed)
        self.assertEqual(open_book.value((0, 0)), "#ring")

    def test_behind_the_other_errors(self):
        book = Book(RINGED, rows=3, rings=False)
        for error, told, edit in ((BadEdit, [], ("rows", 31)), (NoInput, [(1, 0)], ("value", (1, 0), 3)), (NoColumn, [3], ("strike", 3)),
                                  (NoFit, [(0, "foot")], ("set", 0, "foot", GIVEN)), (NoColumn, [9], ("copy", 0, 9, 1))):
            self.unchanged(book, error, told, edit)

    def test_a_book_made_of_a_sheet_with_a_ring(self):
        book = Book(RINGED, rows=3, rings=False)
        for edit in (("value", (0, 0), 3), ("value", (0, 0), None), ("rows", 2), ("rows", 30), ("strike", 0), ("move", 0, 2), ("exchange", 1, 2),
                     ("put", 0, (NONE, NONE, NONE)), ("set", 0, "body", NONE), ("copy", 0, 0, 1)):
            ring = self.ring(book, book.do, edit)
            later = Book(RINGED, rows=3)
            later.do(edit)
            self.assertIs(is_ring(later.sheet, later.rows, ring), True)
            self.refused(Stopped, [0], book.do_all, [edit])
        for edit in (("rows", 1), ("strike", 1), ("set", 2, "body", NONE), ("copy", 0, 1, 1)):
            book.do(edit)
            self.assertEqual(on_rings(book.sheet, book.rows), [])
            # The state ahead had a ring, and stands again.
            self.assertEqual([book.back(), book.value((1, 1)), book.again(), book.back()], [edit, "#ring", edit, edit])

    def test_drawn(self):
        draw = Draw(1222)
        ringed = 0
        for _ in range(300):
            sheet, rows = draw.sheet(), draw.number(0, 3)
            edit = draw.edit(sheet, rows)
            free, kept = Book(sheet, rows=rows), Book(sheet, rows=rows, rings=False)
            try:
                free.do(edit)
            except SheetError as error:
                self.refused(type(error), list(vars(error).values()), kept.do, edit)
                continue
            if on_rings(free.sheet, free.rows):
                self.assertIs(is_ring(free.sheet, free.rows, self.ring(kept, kept.do, edit)), True)
                ringed += 1
            else:
                kept.do(edit)
                self.assertEqual([kept.sheet, kept.contents()], [free.sheet, free.contents()])
        self.assertGreater(ringed, 20)


class Copying(BookTests):
    def test_led_on_by_itself(self):
        book = filled()
        book.back()
        other = book.copied()
        self.assertIsNot(other, book)
        self.assertEqual([other, state(other)], [book, state(book)])
        self.assertEqual(other.again(), ("value", (1, -1), 100))
        self.assertEqual([len(book), book.contents()], [2, {(0, 0): 5, (0, 1): -2}])
        other.do(("rows", 1))
        book.do(("strike", 0))
        self.assertEqual([len(other.sheet), other.rows, len(book.sheet), book.rows], [2, 1, 1, 2])
        self.assertEqual([other.back(), other.back(), other.back(), other.back()],
                         [("rows", 1), ("value", (1, -1), 100), ("value", (0, 1), -2), ("value", (0, 0), 5)])
        self.refused(Nothing, [], other.back)
        self.assertEqual([book.back(), other.again()], [("strike", 0), ("value", (0, 0), 5)])
        self.assertIs(Book(PAID, rings=False).copied().rings, False)

    def test_equality(self):
        book = filled()
        other = Book(PAID, rows=2)
        other.do_all([("value", (1, -1), 100), ("value", (0, 1), -2), ("value", (0, 0), 5)])
        self.assertIs(book == other, True)
        self.assertIs(book != other, False)
        for edit in (("rows", 3), ("value", (0, 0), 6), ("strike", 0), ("value", (0, 0), None), ("set", 0, "foot", NONE)):
            other.do(edit)
            self.assertIs(book == other, False)
            other.back()
            self.assertIs(book == other, True)
        self.assertIs(filled(rings=False) == book, False)
        for thing in more_values() + [PAID, state(book), book.log()]:
            self.assertIs(book == thing, False)
            self.assertIs(thing == book, False)
            self.assertIs(book != thing, True)
        self.assertIs(Book(Sheet([])) == Book(Sheet([])), True)


if __name__ == "__main__":
    unittest.main()
