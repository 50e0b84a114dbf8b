"""[123] desk: a book that is led and asked by lines."""

import unittest

from longsheet.book import Book
from longsheet.desk import Desk
from longsheet.errors import (BadEdit, Beyond, NoCell, NoColumn, NoCommand, NoFit, NoInput, Nothing, SheetError, Wrong)
from longsheet.notation import show_at, show_formula
from longsheet.sheets import Sheet
from longsheet.texts import show_cell, show_contents, show_grid, show_sheet, show_value
from tests.test_book import PAID, state
from tests.things import NONE, Draw, more_values, nested

LINES = ("rows 2", "value 1 head 100", "value 0 1 -30", "set 1 foot total(.[:])", "put 1 empty | input | 0", "move 0 1",
         "exchange 0 2", "copy 0 1 1", "strike 1")


def edit_text(edit, rows):
    """The line of a command that does an edit, or None where there is none."""
    word = edit[0]
    if word == "rows":
        return f"rows {edit[1]}"
    if word == "value":
        if not -1 <= edit[1][1] <= rows:
            return None
        return f"value {show_cell(edit[1], rows)} {show_value(edit[2])}"
    if any(part < 0 for part in edit[1:] if isinstance(part, int)):
        return None
    if word == "set":
        return f"set {edit[1]} {edit[2]} {show_formula(edit[3])}"
    if word == "put":
        return f"put {edit[1]} " + " | ".join(show_formula(formula) for formula in edit[2])
    return " ".join([word] + [str(part) for part in edit[1:]])


class Desks(unittest.TestCase):
    def setUp(self):
        self.desk = Desk(PAID)
        for line in ("rows 2", "value 1 head 100", "value 0 0 5", "value 0 1 -30"):
            self.desk.execute(line)

    def refused(self, error, told, line):
        kept = state(self.desk.book())
        with self.assertRaises(error, msg=repr(line)) as caught:
            self.desk.execute(line)
        self.assertEqual(list(vars(caught.exception).values()), told, repr(line))
        self.assertEqual(state(self.desk.book()), kept)

    def test_wrong(self):
        for thing in more_values() + [nested(30), Book(PAID), PAID.columns(), show_sheet(PAID)]:
            if not isinstance(thing, Sheet):
                with self.assertRaises(Wrong) as caught:
                    Desk(thing)
                self.assertEqual(caught.exception.place, 0)

    def test_first_state(self):
        self.assertEqual(state(Desk(PAID).book()), (PAID.columns(), 0, True, {}, [], 0))

    def test_edits(self):
        desk, book = Desk(PAID), Book(PAID)
        edits = [("rows", 2), ("value", (1, -1), 100), ("value", (0, 1), -30), ("set", 1, "foot", ("total", ("rows", ("by", 0), None, None))),
                 ("put", 1, (NONE, ("input",), ("number", 0))), ("move", 0, 1), ("exchange", 0, 2), ("copy", 0, 1, 1), ("strike", 1)]
        for many, (line, edit) in enumerate(zip(LINES, edits)):
            self.assertEqual(desk.execute(line), str(many + 1))
            book.do(edit)
            self.assertEqual(state(desk.book()), state(book))
        for many in range(9, 0, -1):
            self.assertEqual(desk.execute("back"), str(many - 1))
        with self.assertRaises(Nothing):
            desk.execute("back")
        for many in range(9):
            self.assertEqual(desk.execute("again"), str(many + 1))
        with self.assertRaises(Nothing):
            desk.execute("again")
        self.assertEqual(state(desk.book()), state(book))
        self.assertEqual(self.desk.execute("value 0 1 -"), "5")
        self.assertEqual(self.desk.book().contents(), {(0, 0): 5, (1, -1): 100})
        self.assertEqual(self.desk.execute("value 0 1 -1000000000000"), "6")

    def test_answers(self):
        contents = {(0, 0): 5, (0, 1): -30, (1, -1): 100}
        for line, told in (("cell 1 foot", "75"), ("cell 0 head", "-"), ("cell 0 1", "-30"), ("formula 0 foot", "total(.[:])"),
                           ("formula 1 body", "sum(.[-1], <1[0])"), ("formula 0 head", "empty"), ("at 1 1", "sum(b1, a2)"), ("at 0 7", "input"),
                           ("at 1 0", "sum(b0, a1)"), ("at 1 " + "9" * 60, f"sum(b{'9' * 60}, a1{'0' * 60})"),
                           ("sheet", show_sheet(PAID)), ("contents", show_contents(contents)), ("grid", show_grid(PAID, 2, contents))):
            self.assertEqual(self.desk.execute(line), told, line)
            self.assertEqual(len(self.desk.book()), 4)

    def test_no_commands(self):
        good = LINES + ("back", "again", "cell 1 foot", "formula 0 body", "at 1 1", "sheet", "contents", "grid")
        for line in good:
            word, _, rest = line.partition(" ")
            others = [line + " ", " " + line, line + " x", line + " 0", line.replace(" ", "  ", 1) if rest else line + "  ", line + "\n",
                      "\n" + line, line.capitalize(), line.upper(), word[:-1], word + "s", word + ":" + rest, rest]
            if rest:
                others += [word, word + " ", word + " " + rest.partition(" ")[2], line.replace(" ", "\t"), line.replace(" ", "")]
            for other in others:
                self.refused(NoCommand, [], other)
        for line in ("", " ", "x", "do", "rows", "rows two", "rows -1", "rows 02", "rows +2", "rows 2.0", "rows " + "1" * 61, "value 0 0",
                     "value 0 0 x", "value 0 0 -0", "value 0 0 01", "value 0 0 --1", "value 0 2 1", "value 0 3 1", "value 0 -1 1", "value 0 1",
                     "value x 0 1", "value 0 0 " + "1" * 61, "value 0 0 1 1", "value 0 0 empty", "cell 0 2", "cell 0 99", "cell 0", "cell 0 last",
                     "cell", "cell 0 0 0", "cell -1 0", "set 0 body", "set 0 bodies 1", "set 0 Body 1", "set x body 1", "set -1 body 1",
                     "set 0 body sum(1,2)", "set 0 body 1 ", "set 0 body b3", "set 0 body 1000000000001", "set body 0 1", "strike", "strike x",
                     "strike -1", "strike 0 0", "strike 00", "move 0", "move 0 x", "move 0 1 1", "move -1 0", "exchange 0", "exchange 0 -1",
                     "copy 0 1", "copy 0 1 -1", "copy 0 1 1 1", "copy 0 1 x", "put 0", "put 0 1 | 2", "put 0 1 | 2 | 3 | 4", "put 0 1|2|3",
                     "put x 1 | 2 | 3", "put 0 1 | 2 | 3 ", "put 0  1 | 2 | 3", "put 1 | 2 | 3", "put 0 1 | 2 | x", "formula 0", "formula body 0",
                     "formula 0 bodies", "formula 0 body 1", "formula x body", "formula -1 body", "at 0", "at 0 -1", "at x 0", "at 0 0 0",
                     "at 0 01", "at 0 head", "back 1", "again 1", "sheet 1", "contents 0", "grid 2", "rings", "log", "undo", "\u0660",
                     "rows \u0662"):
            self.refused(NoCommand, [], line)
        for thing in more_values() + [nested(30), b"back", ["rows 2"], ("rows", 2)]:
            self.refused(NoCommand, [], thing)

    def test_what_the_book_raises(self):
        for error, told, line in ((BadEdit, [], "rows 31"), (BadEdit, [], "rows " + "9" * 60), (BadEdit, [], "value 0 0 1000000000001"),
                                  (BadEdit, [], "copy 0 1 0"), (NoInput, [(1, 0)], "value 1 0 4"), (NoInput, [(5, -1)], "value 5 head 4"),
                                  (NoInput, [(0, 2)], "value 0 foot -"), (NoColumn, [2], "set 2 body 1"), (NoFit, [(0, "foot")], "set 0 foot input"),
                                  (NoFit, [(0, "body")], "set 0 body sum(input)"), (NoFit, [(1, "head")], "set 1 head .[0]"),
                                  (NoColumn, [3], "put 3 1 | 2 | 3"), (NoFit, [(2, "body")], "put 2 1 | . foot | input"),
                                  (NoColumn, [2], "strike 2"), (NoColumn, [7], "move 7 8"), (NoColumn, [8], "exchange 1 8"),
                                  (NoColumn, [10 ** 59], "strike " + "1" + "0" * 59), (NoColumn, [2], "copy 0 1 2"),
                                  (NoCell, [(2, -1)], "cell 2 head"), (NoCell, [(9, 2)], "cell 9 foot"), (NoColumn, [2], "formula 2 body"),
                                  (NoColumn, [30], "at 30 0"), (NoColumn, [2], "at 2 0")):
            self.refused(error, told, line)
        self.desk.execute("set 0 body sum($1[0], <3[0], ?[0])")
        self.refused(Beyond, [1], "at 0 0")
        self.refused(NoInput, [(0, 0)], "value 0 0 1")
        self.desk.execute("set 0 body total(.[-2:])")
        self.refused(Beyond, [0], "at 0 1")
        self.assertEqual(self.desk.execute("at 0 2"), "total(a1:)")

    def test_a_full_sheet(self):
        desk = Desk(Sheet([(NONE, NONE, NONE)] * 8))
        with self.assertRaises(BadEdit):
            desk.execute("put 0 1 | 2 | 3")
        with self.assertRaises(NoCommand):
            desk.execute("put 0 1 | 2 | x")

    def test_rings_are_left(self):
        self.desk.execute("set 0 body >1[0]")
        self.assertEqual([self.desk.execute("cell 0 0"), self.desk.book().rings], ["#ring", True])

    def test_cells_by_the_rows_there_are(self):
        self.assertEqual(self.desk.execute("cell 0 1"), "-30")
        self.desk.execute("rows 1")
        self.refused(NoCommand, [], "cell 0 1")
        self.assertEqual(self.desk.execute("cell 0 foot"), "5")
        self.desk.execute("back")
        self.assertEqual(self.desk.execute("cell 0 1"), "-30")

    def test_the_book_is_a_copy(self):
        book = self.desk.book()
        book.do(("strike", 0))
        self.assertEqual([len(self.desk.book().sheet), self.desk.execute("rows 3")], [2, "5"])
        other = self.desk.book()
        self.assertEqual([other.back(), other.back(), self.desk.execute("back"), self.desk.execute("again")],
                         [("rows", 3), ("value", (0, 1), -30), "4", "5"])
        self.desk.execute("back")
        self.assertEqual(self.desk.book().again(), ("rows", 3))

    def test_drawn(self):
        draw = Draw(1230)
        done = 0
        for _ in range(120):
            sheet = draw.sheet()
            desk, book = Desk(sheet), Book(sheet)
            for _ in range(8):
                edit = draw.edit(book.sheet, book.rows)
                line = edit_text(edit, book.rows)
                if line is None:
                    continue
                try:
                    book.do(edit)
                except SheetError as error:
                    with self.assertRaises(type(error)) as caught:
                        desk.execute(line)
                    self.assertEqual(vars(caught.exception), vars(error))
                    continue
                self.assertEqual(desk.execute(line), str(len(book)))
                done += 1
            self.assertEqual(state(desk.book()), state(book))
            sheet, rows, contents = book.sheet, book.rows, book.contents()
            self.assertEqual([desk.execute(word) for word in ("sheet", "contents", "grid")],
                             [show_sheet(sheet), show_contents(contents), show_grid(sheet, rows, contents)])
            for address in sheet.addresses(rows):
                self.assertEqual(desk.execute("cell " + show_cell(address, rows)), show_value(book.value(address)))
            for column in range(len(sheet)):
                for place, formula in zip(("head", "body", "foot"), sheet[column]):
                    self.assertEqual(desk.execute(f"formula {column} {place}"), show_formula(formula))
                try:
                    told = show_at(sheet[column][1], column, 4)
                except Beyond as error:
                    with self.assertRaises(Beyond) as caught:
                        desk.execute(f"at {column} 4")
                    self.assertEqual(caught.exception.at, error.at)
                else:
                    self.assertEqual(desk.execute(f"at {column} 4"), told)
        self.assertGreater(done, 300)


if __name__ == "__main__":
    unittest.main()
