"""[156] wards: books of which checks keep all written rows."""

import unittest

from longsheet.asks import column_asked, entry_at, input_columns
from longsheet.book import Book
from longsheet.checks import fits_sheet, tests_of
from longsheet.errors import (BadEdit, NoColumn, NoFit, NoInput, Nothing, Refused, Ring, SheetError, Stopped, Stuck, Unasked, Wrong)
from longsheet.safe import outcome, safe_order
from longsheet.sheets import Sheet
from longsheet.sure import is_kept, is_ready, protecting
from longsheet.values import is_error
from longsheet.wards import Ward
from tests.test_book import state
from tests.test_reckoning import sheet_of
from tests.test_safe import bars, drawn_checks, errs_at
from tests.things import FAR, NONE, Draw, more_values, nested

OWN, NEXT = ("name", ("at", 0), ("by", 0)), ("name", ("at", 1), ("by", 0))
GIVEN = (NONE, ("input",), NONE)
SHEET = sheet_of("input | input | empty", "empty | input | empty", "empty | over($0[0], sum($1[0], -3)) | empty")
# Column 1 is never 3 where column 0 is not 5; where it is, the second check errs, but the third one is asked ahead of it.
CHECKS = [bars(7), ("any", (("asks", OWN, "=", 5), errs_at(3, NEXT))), bars(3, NEXT)]


def ward_state(ward):
    return (state(ward.book()), ward.checks(), ward.order())


def ward_of(*edits, checks=None, rows=3, **more):
    book = Book(SHEET, rows=rows, **more)
    for edit in edits:
        book.do(edit)
    return Ward(book, CHECKS if checks is None else checks)


def moved_test(test, places):
    """A test that asks its column where that is then."""
    to = places[column_asked(test)]
    if test[0] == "empty":
        return ("empty", to)
    return ("asks", replaced(test[1], to), test[2], test[3])


def replaced(formula, to):
    if formula[0] == "name":
        return ("name", ("at", to), ("by", 0))
    return tuple(replaced(part, to) if isinstance(part, tuple) and part and isinstance(part[0], str)
                 else tuple(replaced(one, to) for one in part) if isinstance(part, tuple) else part for part in formula)


def moved_check(check, places):
    if check[0] in ("all", "any"):
        return (check[0], tuple(moved_check(part, places) for part in check[1]))
    return ("not", moved_check(check[1], places)) if check[0] == "not" else moved_test(check, places)


def places_of(edit, many):
    """Where an edit takes columns, by a list of them on which it is done."""
    columns = list(range(many))
    if edit[0] == "put":
        columns.insert(edit[1], None)
    elif edit[0] == "strike":
        del columns[edit[1]]
    elif edit[0] == "move":
        columns.insert(edit[2], columns.pop(edit[1]))
    elif edit[0] == "exchange":
        columns[edit[1]], columns[edit[2]] = columns[edit[2]], columns[edit[1]]
    return {old: columns.index(old) if old in columns else None for old in range(many)}


def written_rows(book, checks, order):
    """All written rows that are not kept, with the check that refuses them."""
    found = []
    for row in range(book.rows):
        entry = entry_at(book.sheet, book.contents(), row)
        if any(value is not None for value in entry.values()) and not is_kept(checks, entry):
            told = outcome(checks, order, entry)
            assert told[0] == "refused"
            found.append((row, told[1]))
    return found


def plain_behind(book, checks, edits):
    """The checks behind edits that a Book can do, as they go along, or the index of the first that asks what is gone."""
    later, places = book.copied(), {old: old for old in range(len(book.sheet))}
    for edit in edits:
        following = places_of(edit, len(later.sheet))
        places = {old: None if to is None else following[to] for old, to in places.items()}
        later.do(edit)
    led = []
    for at, check in enumerate(checks):
        if any(places[column_asked(test)] is None for test in tests_of(check)):
            return at
        led.append(moved_check(check, places))
        if not fits_sheet(led[-1], later.sheet):
            return at
    return led


class WardTests(unittest.TestCase):
    def refused(self, error, told, asked, *args):
        with self.assertRaises(error, msg=repr(args)) as caught:
            asked(*args)
        self.assertEqual(list(vars(caught.exception).values()), told, repr(args))

    def unchanged(self, ward, error, told, edit):
        kept = ward_state(ward)
        self.refused(error, told, ward.do, edit)
        self.assertEqual(ward_state(ward), kept)


class Making(WardTests):
    def test_told(self):
        book = Book(SHEET, rows=3)
        for given in (CHECKS, tuple(CHECKS)):
            ward = Ward(book, given)
            self.assertEqual(ward_state(ward), (state(book), CHECKS, [0, 2, 1]))
        self.assertEqual(ward_state(Ward(book, [])), (state(book), [], []))
        self.assertIsInstance(ward.book(), Book)

    def test_wrong(self):
        for thing in more_values() + [nested(30), SHEET]:
            if not isinstance(thing, Book):
                self.refused(Wrong, [0], Ward, thing, CHECKS)
                self.refused(Wrong, [0], Ward, thing, None)
        good = [[], (), [("empty", 0)], (("empty", 0),), [("any", ())], [CHECKS[0]]]
        for thing in more_values() + [nested(30), CHECKS[0], [CHECKS], [None], CHECKS + [None], {0: CHECKS[0]}, "", [("empty", 8)], {CHECKS[0]},
                                      (["any", ()],), [("all", [])]]:
            if thing in good and isinstance(thing, (list, tuple)):
                continue
            self.refused(Wrong, [1], Ward, Book(SHEET), thing)

    def test_errors_in_their_order(self):
        stuck = [errs_at(0), bars(1)]
        for checks, at in ((stuck + [("empty", 2)], 2), ([("empty", 3), ("empty", 2)], 0), ([("all", (("empty", 0), ("not", ("empty", 7))))], 0),
                           ([("any", ()), ("empty", 2)], 1)):
            self.refused(Unasked, [at], Ward, Book(SHEET), checks)
        book = Book(SHEET, rows=3)
        book.do_all([("value", (0, 1), 7), ("value", (1, 2), 3)])
        self.refused(Stuck, [[0]], Ward, book, stuck)
        self.refused(Stuck, [[0, 2]], Ward, book, [errs_at(0), bars(1), errs_at(0)])
        self.refused(Refused, [1, 0], Ward, book, CHECKS)
        self.refused(Refused, [2, 2], Ward, book, [bars(8)] + CHECKS[1:])
        self.refused(Refused, [1, 1], Ward, book, [bars(4), bars(7)])
        with self.assertRaises(Refused) as caught:
            Ward(book, CHECKS)
        self.assertEqual([caught.exception.row, caught.exception.at], [1, 0])
        # By the safe order the third check is asked ahead of the second one, which errs here, too.
        book = Book(SHEET, rows=1)
        book.do(("value", (1, 0), 3))
        self.refused(Refused, [0, 2], Ward, book, CHECKS)

    def test_rows_that_are_not_written(self):
        # Nothing is kept, but no row is written; heads are no rows.
        book = Book(SHEET, rows=3)
        book.do(("value", (0, -1), 7))
        ward = Ward(book, [("any", ())])
        self.refused(Refused, [1, 0], ward.do, ("value", (0, 1), 1))
        self.assertIsNone(ward.do(("rows", 5)))
        no_inputs = Ward(Book(Sheet([(NONE, NONE, NONE)]), rows=4), [("any", ())])
        no_inputs.do(("rows", 9))
        self.assertEqual(no_inputs.order(), [0])

    def test_what_was_passed_is_changed_later(self):
        book, checks = Book(SHEET, rows=2), list(CHECKS)
        ward = Ward(book, checks)
        book.do(("value", (0, 0), 7))
        checks.clear()
        self.assertEqual([ward.book().contents(), ward.checks()], [{}, CHECKS])
        ward.checks().clear()
        ward.order().reverse()
        ward.book().do(("rows", 0))
        self.assertEqual([ward.book().rows, ward.checks(), ward.order()], [2, CHECKS, [0, 2, 1]])


class Doing(WardTests):
    def test_values(self):
        ward = ward_of()
        for address, number, told in (((0, 0), 5, None), ((0, 1), 7, (1, 0)), ((1, 0), 3, (0, 2)), ((1, 0), 4, None), ((0, -1), 7, None),
                                      ((1, 2), 3, (2, 2)), ((0, 0), 7, (0, 0)), ((0, 0), None, None), ((1, 0), None, None)):
            edit = ("value", address, number)
            self.assertEqual(ward.refusals(edit), [told] if told else [])
            if told:
                self.unchanged(ward, Refused, list(told), edit)
                self.refused(Refused, list(told), ward.do_all, [edit])
            else:
                self.assertIsNone(ward.do(edit))
        self.assertEqual([ward.book().contents(), len(ward.book())], [{(0, -1): 7}, 5])

    def test_what_the_book_refuses(self):
        ward = ward_of(("value", (0, 0), 5), rings=False)
        ring = ("set", 2, "body", ("name", ("by", 0), ("by", 0)))
        for error, edit in ((BadEdit, ("rows", 31)), (BadEdit, None), (NoInput, ("value", (2, 0), 1)), (NoColumn, ("strike", 3)),
                            (NoFit, ("set", 0, "foot", ("input",))), (NoColumn, ("put", 4, GIVEN)), (Ring, ring), (NoColumn, ("move", 0, 3))):
            with self.assertRaises(error) as told:
                ward.book().do(edit)
            self.unchanged(ward, error, list(vars(told.exception).values()), edit)
            self.refused(error, list(vars(told.exception).values()), ward.refusals, edit)
        for thing in more_values() + [nested(30)]:
            if thing not in [("rows", 1), ("strike", 0), ("value", (0, 0), 1)]:
                self.unchanged(ward, BadEdit, [], thing)
                self.refused(BadEdit, [], ward.refusals, thing)

    def test_unasked(self):
        ward = ward_of(("value", (0, 0), 5))
        for edit, at in ((("strike", 0), 0), (("strike", 1), 1), (("set", 0, "body", NONE), 0), (("set", 1, "body", ("number", 3)), 1),
                         (("copy", 2, 1, 1), 1), (("copy", 1, 0, 2), 1)):
            self.unchanged(ward, Unasked, [at], edit)
            self.refused(Unasked, [at], ward.refusals, edit)
            self.refused(Unasked, [at], ward.do_all, [edit])
        for edit in (("strike", 2), ("set", 2, "body", ("input",)), ("set", 0, "head", NONE), ("copy", 0, 1, 1), ("set", 0, "body", ("input",))):
            self.assertEqual(ward.refusals(edit), [])
            self.assertIsNone(ward.do(edit))
            self.assertEqual(ward.back(), edit)

    def test_unasked_comes_ahead_of_refused(self):
        ward = ward_of(("value", (0, 0), 5), checks=[bars(7), ("empty", 1)])
        self.unchanged(ward, Unasked, [0], ("set", 0, "body", NONE))
        self.refused(Unasked, [1], ward.do_all, [("value", (0, 0), 7), ("strike", 1)])
        self.refused(Refused, [0, 0], ward.do_all, [("value", (0, 0), 7), ("strike", 2)])

    def test_checks_go_along(self):
        for edits, places, last in (([("put", 0, GIVEN)], [1, 2], 3), ([("put", 1, GIVEN)], [0, 2], 3), ([("put", 3, GIVEN)], [0, 1], 2),
                                    ([("strike", 2)], [0, 1], None), ([("move", 0, 2)], [2, 0], 1), ([("move", 2, 0)], [1, 2], 0),
                                    ([("exchange", 0, 1)], [1, 0], 2), ([("exchange", 1, 2)], [0, 2], 1),
                                    ([("put", 0, GIVEN), ("move", 1, 3), ("strike", 0)], [2, 0], 1)):
            ward = ward_of(("value", (0, 0), 5), ("value", (1, 0), 4))
            for edit in edits:
                ward.do(edit)
            one, other = [("name", ("at", at), ("by", 0)) for at in places]
            self.assertEqual(ward.checks(), [bars(7, one), ("any", (("asks", one, "=", 5), errs_at(3, other))), bars(3, other)])
            self.assertEqual(ward.order(), [0, 2, 1])
            self.assertEqual([ward.book().contents()[(at, 0)] for at in places], [5, 4])
            self.unchanged(ward, Refused, [1, 0], ("value", (places[0], 1), 7))
            self.unchanged(ward, Refused, [2, 2], ("value", (places[1], 2), 3))
            for edit in edits[::-1]:
                self.assertEqual(ward.back(), edit)
            self.assertEqual(ward.checks(), CHECKS)
            all_at_once = ward_of(("value", (0, 0), 5), ("value", (1, 0), 4))
            all_at_once.do_all(edits)
            for edit in edits:
                self.assertEqual(ward.again(), edit)
            self.assertEqual(all_at_once, ward)
            self.assertEqual(all_at_once.back(), tuple(edits))
            self.assertEqual(all_at_once, ward_of(("value", (0, 0), 5), ("value", (1, 0), 4)))
            self.assertEqual(all_at_once.checks(), CHECKS)
            all_at_once.again()
            self.assertEqual(all_at_once, ward)

    def test_a_put_sheet_of_eight(self):
        ward = Ward(Book(Sheet([GIVEN] * 8)), [("empty", 7)])
        self.unchanged(ward, BadEdit, [], ("put", 0, GIVEN))
        ward = Ward(Book(Sheet([GIVEN] * 7), rows=1), [("not", ("empty", 6))])
        ward.do(("put", 0, GIVEN))
        self.assertEqual(ward.checks(), [("not", ("empty", 7))])
        self.unchanged(ward, Refused, [0, 0], ("value", (3, 0), 1))

    def test_new_input_columns(self):
        # A row is written as soon as any of its inputs is, also one that no check asks.
        ward = ward_of(checks=[("not", ("empty", 0))])
        ward.do(("put", 0, GIVEN))
        self.unchanged(ward, Refused, [2, 0], ("value", (0, 2), 9))
        ward.do_all([("value", (1, 2), 1), ("value", (0, 2), 9)])
        self.unchanged(ward, Refused, [2, 0], ("value", (1, 2), None))
        ward.do(("strike", 0))
        ward.do(("value", (0, 2), None))
        self.assertEqual(ward.book().contents(), {})

    def test_columns_that_are_no_inputs_any_more(self):
        # The row that was kept by column 1 alone is not written any more.
        ward = ward_of(("value", (1, 0), 4), checks=[("empty", 0)])
        ward.do(("set", 1, "body", NONE))
        self.assertEqual([ward.book().contents(), ward.back()[0], ward.book().contents()], [{}, "set", {(1, 0): 4}])


class DoAll(WardTests):
    def test_by_what_stands_behind_all(self):
        ward = ward_of()
        ward.do_all([("value", (0, 0), 7), ("value", (1, 0), 3), ("value", (0, 0), 6), ("value", (1, 0), 2)])
        self.assertEqual([ward.book().contents(), len(ward.book())], [{(0, 0): 6, (1, 0): 2}, 1])
        self.refused(Refused, [1, 2], ward.do_all, (("value", (0, 2), 7), ("value", (1, 1), 3)))
        ward.do_all([])
        self.assertEqual([ward.back(), ward.back(), ward.book().contents()],
                         [(), (("value", (0, 0), 7), ("value", (1, 0), 3), ("value", (0, 0), 6), ("value", (1, 0), 2)), {}])

    def test_columns_struck_on_the_way(self):
        ward = ward_of()
        self.refused(Unasked, [0], ward.do_all, [("strike", 0), ("put", 0, GIVEN)])
        self.refused(Unasked, [1], ward.do_all, [("strike", 1), ("put", 1, GIVEN)])
        # It is no input on the way, but is one at the end.
        ward.do_all([("set", 0, "body", NONE), ("move", 0, 1), ("set", 1, "body", ("input",))])
        self.assertEqual(ward.checks()[0], bars(7, NEXT))

    def test_what_the_book_raises(self):
        ward = ward_of(rings=False)
        kept = ward_state(ward)
        for edits in (None, [None], ("rows", 1), [("rows", 1), ("rows", 31)], "x", {}):
            self.refused(BadEdit, [], ward.do_all, edits)
        for edits, at in (([("strike", 0), ("strike", 2)], 1), ([("strike", 9)], 0), ([("rows", 1), ("value", (0, 1), 1)], 1),
                          ([("rows", 3), ("set", 2, "body", ("name", ("by", 0), ("by", 0))), ("strike", 2)], 1)):
            self.refused(Stopped, [at], ward.do_all, edits)
        self.assertEqual(ward_state(ward), kept)


class Undoing(WardTests):
    def test_edits_ahead_stay(self):
        book = Book(SHEET, rows=2)
        book.do(("value", (0, 0), 1))
        book.do(("value", (0, 0), 2))
        book.back()
        ward = Ward(book, CHECKS)
        self.refused(Nothing, [], ward.back)
        self.refused(Nothing, [], ward.again)
        self.assertEqual([ward.book().log(), ward.book().copied().again()], [[("value", (0, 0), 1)], ("value", (0, 0), 2)])
        ward.do(("rows", 3))
        self.assertEqual([ward.back(), ward.book().log()], [("rows", 3), [("value", (0, 0), 1)]])
        self.refused(Nothing, [], ward.back)
        self.assertEqual([ward.again(), ward.book().log()], [("rows", 3), [("value", (0, 0), 1), ("rows", 3)]])
        self.refused(Nothing, [], ward.again)

    def test_behind_refused_edits(self):
        ward = ward_of()
        ward.do(("value", (0, 0), 1))
        ward.do(("put", 0, GIVEN))
        ward.back()
        for error, edit in ((Refused, ("value", (0, 1), 7)), (Unasked, ("strike", 0)), (BadEdit, None), (NoColumn, ("strike", 3))):
            with self.assertRaises(error):
                ward.do(edit)
        ward.refusals(("rows", 1))
        self.assertEqual([ward.again(), ward.checks()[0]], [("put", 0, GIVEN), bars(7, NEXT)])
        ward.back()
        ward.do(("rows", 2))
        self.refused(Nothing, [], ward.again)
        self.assertEqual([ward.checks(), ward.back(), ward.checks(), ward.back()], [CHECKS, ("rows", 2), CHECKS, ("value", (0, 0), 1)])
        self.assertEqual(ward, ward_of())
        self.assertEqual([ward.again(), ward.again()], [("value", (0, 0), 1), ("rows", 2)])
        self.refused(Nothing, [], ward.again)
        self.assertEqual(ward.checks(), CHECKS)

    def test_copied(self):
        ward = ward_of()
        ward.do(("value", (0, 0), 1))
        ward.do(("exchange", 0, 1))
        ward.back()
        other = ward.copied()
        self.assertIsNot(other, ward)
        self.assertEqual([other, ward_state(other)], [ward, ward_state(ward)])
        self.assertEqual([other.again(), other.checks()[0], ward.checks()[0]], [("exchange", 0, 1), bars(7, NEXT), bars(7)])
        other.do(("rows", 1))
        self.assertEqual([other.back(), other.back(), other.back(), ward.again(), ward.book().rows],
                         [("rows", 1), ("exchange", 0, 1), ("value", (0, 0), 1), ("exchange", 0, 1), 3])
        self.refused(Nothing, [], other.back)
        self.assertEqual(ward.back(), ("exchange", 0, 1))

    def test_equality(self):
        ward = ward_of()
        self.assertIs(ward == ward_of(), True)
        self.assertIs(ward != ward_of(), False)
        for other in (ward_of(("value", (0, 0), 1)), ward_of(checks=CHECKS[::-1]), ward_of(checks=CHECKS[:1]), ward_of(rows=2), ward_of(rings=False)):
            self.assertIs(ward == other, False)
            self.assertIs(ward != other, True)
        for thing in more_values() + [nested(30), ward.book(), CHECKS, ward_state(ward)]:
            self.assertIs(ward == thing, False)
            self.assertIs(thing == ward, False)


class Drawn(WardTests):
    def test_against_a_book(self):
        draw = Draw(1560)
        counts = {}
        for _ in range(250):
            sheet, rows = draw.input_sheet(), draw.number(1, 4)
            checks = drawn_checks(draw, sheet, 3)
            order = safe_order(sheet, checks)
            if order is None:
                self.assertRaises(Stuck, Ward, Book(sheet, rows=rows), checks)
                continue
            ward, book = Ward(Book(sheet, rows=rows), checks), Book(sheet, rows=rows)
            states = [(state(book), checks)]
            for _ in range(10):
                edits = [draw.edit(book.sheet, book.rows) for _ in range(draw.one([1, 1, 2]))]
                if draw.number(0, 1):
                    inputs = book.sheet.inputs(book.rows)
                    edits = [("value", draw.one(inputs), draw.one([None, 0, 1, 2, 2]))] if inputs else edits
                kind = self.one_turn(ward, book, checks, order, edits)
                counts[kind] = counts.get(kind, 0) + 1
                if kind == "done":
                    checks = ward.checks()
                    states.append((state(book), checks))
                self.assertEqual((state(ward.book()), ward.checks(), ward.order()), states[-1] + (order,))
                # Nothing refused: the Ward's Book is the one that the same edits lead.
                self.assertEqual(ward.book(), book)
            for at in range(len(states) - 2, -1, -1):
                ward.back()
                self.assertEqual((state(ward.book()), ward.checks()), states[at])
            for told in states[1:]:
                ward.again()
                self.assertEqual((state(ward.book()), ward.checks()), told)
        self.assertTrue(min(counts[kind] for kind in ("done", "book", "Unasked", "Refused")) > 10, counts)

    def one_turn(self, ward, book, checks, order, edits):
        """One edit or several as one, of the Ward and of the Book; what came of it."""
        asked, args = (ward.do, edits[0]) if len(edits) == 1 else (ward.do_all, edits)
        later = book.copied()
        try:
            if len(edits) == 1:
                later.do(edits[0])
            else:
                later.do_all(edits)
        except SheetError as error:
            self.refused(type(error), list(vars(error).values()), asked, args)
            if len(edits) == 1:
                self.refused(type(error), list(vars(error).values()), ward.refusals, args)
            return "book"
        led = plain_behind(book, checks, edits)
        if not isinstance(led, list):
            self.refused(Unasked, [led], asked, args)
            return "Unasked"
        rows = written_rows(later, led, order)
        if len(edits) == 1:
            self.assertEqual(ward.refusals(args), rows)
        if rows:
            self.refused(Refused, list(rows[0]), asked, args)
            return "Refused"
        self.assertIsNone(asked(args))
        self.assertEqual(ward.checks(), led)
        self.assertEqual(ward.order(), safe_order(later.sheet, led))
        if len(edits) == 1:
            book.do(args)
        else:
            book.do_all(args)
        return "done"

    def test_protected_columns(self):
        draw = Draw(1561)
        asked = 0
        for _ in range(200):
            sheet = draw.input_sheet()
            checks = drawn_checks(draw, sheet, 3) + [("asks", ("name", ("at", column), ("by", 0)), ">", 9) for column in input_columns(sheet)]
            columns = [column for column in range(len(sheet)) if is_ready(sheet, column) and protecting(sheet, checks, column) is not None]
            if not columns or safe_order(sheet, checks) is None:
                continue
            ward = Ward(Book(sheet, rows=3), checks)
            for _ in range(12):
                row = draw.number(0, 2)
                edits = [("value", (column, row), draw.one([0, 3, 10, 11, FAR])) for column in input_columns(sheet)]
                try:
                    ward.do_all(edits)
                except Refused:
                    continue
                for column in columns:
                    self.assertNotEqual(ward.book().value((column, row)), "#zero")
                    asked += not is_error(ward.book().value((column, row)))
        self.assertGreater(asked, 50)


if __name__ == "__main__":
    unittest.main()
