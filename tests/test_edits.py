"""[31] led, [32] edits, and [8] names are led."""

import unittest

from longsheet.edits import copy_columns, exchange, move_column, put_column, set_formula, strike_column
from longsheet.errors import NoColumn, NoFit
from longsheet.formulas import reads, with_reads
from longsheet.led import led
from longsheet.names import column_of, with_column
from longsheet.sheets import Sheet
from tests import reckoner
from tests.things import NONE, Draw, some_values

GIVEN = ("input",)
PLACES = ("head", "body", "foot")
NEW = (("number", 5), ("name", ("by", -1), ("by", -1)), ("name", ("at", 0), ("last", 2)))


def name(part, row=("by", 0)):
    return ("name", part, row)


def number_column(number):
    return (("number", number), ("number", number), ("number", number))


class Led(unittest.TestCase):
    def test_names_of_all_sorts(self):
        places = [2, None, 0, 1]
        for row in (("by", -1), ("head",), ("foot",), ("last", 2)):
            for part, then in ((("by", 0), ("by", 0)), (("by", -3), ("by", 1)), (("by", -1), ("by", -1)),
                               (("at", 3), ("at", 1)), (("at", 0), ("at", 2)), (("lost",), ("lost",)),
                               (("by", -2), ("lost",)), (("at", 1), ("lost",)), (("by", 1), ("by", 1)),
                               (("by", -4), ("by", -4)), (("at", 4), ("at", 4)), (("at", 7), ("at", 7))):
                self.assertEqual(led(name(part, row), 3, 1, places), name(then, row))

    def test_ranges(self):
        for part, then in ((("by", 1), ("by", -1)), (("at", 0), ("at", 1)), (("by", 2), ("by", 2)), (("lost",), ("lost",))):
            for low, high in ((None, None), (-3, 4), (0, None)):
                self.assertEqual(led(("total", ("rows", part, low, high)), 0, 1, [1, 0]), ("total", ("rows", then, low, high)))

    def test_within_formulas(self):
        formula = ("case", name(("by", 1)), ">", ("number", 4), ("times", 3, name(("at", 1))),
                   ("most", (("low", ("rows", ("by", 0), None, 0)), name(("by", -1)), GIVEN)))
        self.assertEqual(led(formula, 0, 0, [0, 2]), (
            "case", name(("by", 2)), ">", ("number", 4), ("times", 3, name(("at", 2))),
            ("most", (("low", ("rows", ("by", 0), None, 0)), name(("by", -1)), GIVEN))))
        for plain in (GIVEN, NONE, ("number", 3), ("sum", ())):
            self.assertEqual(led(plain, 0, 1, [1]), plain)

    def test_a_place_other_than_its_own(self):
        self.assertEqual(led(name(("by", 1)), 0, 5, [0, 1]), name(("by", -4)))
        self.assertEqual(led(name(("at", 1)), 0, 5, [0, 1]), name(("at", 1)))
        self.assertEqual(led(name(("by", 0)), 0, 5, [None, 1]), name(("lost",)))

    def test_no_old_columns(self):
        for part in (("by", 0), ("by", 1), ("at", 0), ("lost",)):
            self.assertEqual(led(name(part), 0, 3, []), name(part))

    def test_nothing_passed_is_changed(self):
        places = [1, None, 0]
        led(name(("by", 1)), 0, 1, places)
        self.assertEqual(places, [1, None, 0])

    def test_drawn(self):
        draw = Draw(31)
        for _ in range(300):
            formula = draw.formula(None, 3, True)
            many = draw.number(1, 4)
            places = list(range(many))
            draw.random.shuffle(places)
            if draw.number(0, 1):
                places[draw.number(0, many - 1)] = None
            column, to = draw.number(0, many - 1), draw.number(0, many - 1)
            for old, new in zip(reads(formula), reads(led(formula, column, to, places))):
                meant = column_of(old, column)
                self.assertEqual(new[0:1] + new[2:], old[0:1] + old[2:])
                if meant is None or meant not in range(many):
                    self.assertEqual(new, old)
                elif places[meant] is None:
                    self.assertEqual(new[1], ("lost",))
                else:
                    self.assertEqual(new[1][0], old[1][0])
                    self.assertEqual(column_of(new, to), places[meant])


class EditCase(unittest.TestCase):
    def no_column(self, value, edit, *args):
        kept = args[0].columns()
        with self.assertRaises(NoColumn) as caught:
            edit(*args)
        self.assertTrue(caught.exception.column is value or caught.exception.column == value)
        self.assertIs(type(caught.exception.column), type(value))
        self.assertEqual(args[0].columns(), kept)

    def setUp(self):
        self.sheet = Sheet([
            (GIVEN, ("sum", (name(("by", 1)), name(("at", 2)), name(("by", 5)))), name(("at", 1), ("last", 0))),
            (name(("by", -1), ("head",)), GIVEN, ("total", ("rows", ("at", 0), None, None))),
            (NONE, ("over", name(("by", -2), ("by", -1)), ("top", ("rows", ("by", -1), -2, None))), name(("lost",), ("foot",))),
        ])


class Edits(EditCase):
    def test_put_column(self):
        first = put_column(self.sheet, 0, NEW)
        self.assertEqual(first.columns(), [
            NEW,
            (GIVEN, ("sum", (name(("by", 1)), name(("at", 3)), name(("by", 5)))), name(("at", 2), ("last", 0))),
            (name(("by", -1), ("head",)), GIVEN, ("total", ("rows", ("at", 1), None, None))),
            (NONE, ("over", name(("by", -2), ("by", -1)), ("top", ("rows", ("by", -1), -2, None))), name(("lost",), ("foot",))),
        ])
        between = put_column(self.sheet, 2, NEW)
        self.assertEqual(between.columns(), [
            (GIVEN, ("sum", (name(("by", 1)), name(("at", 3)), name(("by", 5)))), name(("at", 1), ("last", 0))),
            self.sheet[1],
            NEW,
            (NONE, ("over", name(("by", -3), ("by", -1)), ("top", ("rows", ("by", -2), -2, None))), name(("lost",), ("foot",))),
        ])
        self.assertEqual(put_column(self.sheet, 3, NEW).columns(), self.sheet.columns() + [NEW])
        self.assertEqual(put_column(Sheet([]), 0, number_column(1)).columns(), [number_column(1)])

    def test_strike_column(self):
        self.assertEqual(strike_column(self.sheet, 1).columns(), [
            (GIVEN, ("sum", (name(("lost",)), name(("at", 1)), name(("by", 5)))), name(("lost",), ("last", 0))),
            (NONE, ("over", name(("by", -1), ("by", -1)), ("top", ("rows", ("lost",), -2, None))), name(("lost",), ("foot",))),
        ])
        self.assertEqual(strike_column(Sheet([number_column(1)]), 0), Sheet([]))
        self.assertEqual(strike_column(self.sheet, 2)[0][1], ("sum", (name(("by", 1)), name(("lost",)), name(("by", 5)))))

    def test_move_column(self):
        sheet = Sheet([number_column(number) for number in range(5)])
        for at in range(5):
            for to in range(5):
                numbers = [number for number in range(5) if number != at]
                numbers.insert(to, at)
                moved = move_column(sheet, at, to)
                self.assertEqual([column[0][1] for column in moved.columns()], numbers)
        self.assertEqual(move_column(self.sheet, 0, 2).columns(), [
            (name(("by", 2 - 0), ("head",)), GIVEN, ("total", ("rows", ("at", 2), None, None))),
            (NONE, ("over", name(("by", 1), ("by", -1)), ("top", ("rows", ("by", -1), -2, None))), name(("lost",), ("foot",))),
            (GIVEN, ("sum", (name(("by", -2)), name(("at", 1)), name(("by", 5)))), name(("at", 0), ("last", 0))),
        ])

    def test_exchange(self):
        self.assertEqual(exchange(self.sheet, 0, 2).columns(), [
            (NONE, ("over", name(("by", 2), ("by", -1)), ("top", ("rows", ("by", 1), -2, None))), name(("lost",), ("foot",))),
            (name(("by", 1), ("head",)), GIVEN, ("total", ("rows", ("at", 2), None, None))),
            (GIVEN, ("sum", (name(("by", -1)), name(("at", 0)), name(("by", 5)))), name(("at", 1), ("last", 0))),
        ])
        self.assertEqual(exchange(self.sheet, 2, 0), exchange(self.sheet, 0, 2))
        self.assertEqual(exchange(self.sheet, 1, 1), self.sheet)

    def test_set_formula(self):
        for at in range(3):
            for index, place in enumerate(PLACES):
                changed = set_formula(self.sheet, at, place, ("number", 9))
                columns = [list(column) for column in self.sheet.columns()]
                columns[at][index] = ("number", 9)
                self.assertEqual(changed, Sheet(columns))
        self.assertEqual(set_formula(self.sheet, 1, "foot", name(("lost",), ("last", 1)))[1][2], name(("lost",), ("last", 1)))

    def test_set_formula_that_does_not_fit(self):
        kept = self.sheet.columns()
        cases = [(place, formula) for place in some_values() + ["Head", "bod", b"body", ("body",), ["foot"]]
                 if place != "head" for formula in (NONE, None)]
        cases += [(place, thing) for place in PLACES for thing in some_values() if thing != GIVEN]
        cases += [("head", name(("by", 0))), ("body", name(("by", 0), ("last", 0))), ("foot", GIVEN),
                  ("body", ("sum", (GIVEN,))), ("body", name(("by", 0), ("foot",))), ("body", list(NONE)),
                  ("head", ("total", ("rows", ("by", 0), None, None))), ("foot", ("low", ("rows", ("by", 0), None, 0)))]
        for place, formula in cases:
            with self.assertRaises(NoFit) as caught:
                set_formula(self.sheet, 1, place, formula)
            at, told = caught.exception.place
            self.assertEqual(at, 1)
            self.assertIs(told, place)
        self.assertEqual(self.sheet.columns(), kept)

    def test_copy_columns(self):
        numbers = [number_column(number) for number in range(6)]
        sheet = Sheet(numbers)
        for at in range(6):
            for to in range(6):
                for many in range(1, 7 - max(at, to)):
                    told = list(range(6))
                    told[to:to + many] = range(at, at + many)
                    self.assertEqual([column[1][1] for column in copy_columns(sheet, at, to, many).columns()], told)

    def test_copied_formulas_stay_as_they_are(self):
        self.assertEqual(copy_columns(self.sheet, 0, 1, 2).columns(), [self.sheet[0], self.sheet[0], self.sheet[1]])
        self.assertEqual(copy_columns(self.sheet, 1, 0, 2).columns(), [self.sheet[1], self.sheet[2], self.sheet[2]])

    def test_drawn_edits_there_and_back(self):
        draw = Draw(32)
        for _ in range(150):
            sheet = self.without_dangling(draw.sheet())
            kept = sheet.columns()
            at = draw.number(0, len(sheet))
            put = put_column(sheet, at, number_column(7))
            self.assertEqual(put[at], number_column(7))
            self.assertEqual(strike_column(put, at).columns(), kept)
            for one in range(len(sheet)):
                for other in range(len(sheet)):
                    self.assertEqual(move_column(move_column(sheet, one, other), other, one).columns(), kept)
                    self.assertEqual(exchange(exchange(sheet, one, other), one, other).columns(), kept)
            self.assertEqual(sheet.columns(), kept)

    def without_dangling(self, sheet):
        """The sheet with lost columns in the place of those beyond it, which are not led and may come to mean some."""
        columns = []
        for at in range(len(sheet)):
            column = []
            for formula in sheet[at]:
                there = [read if column_of(read, at) in range(len(sheet)) else with_column(read, ("lost",))
                         for read in reads(formula)]
                column.append(with_reads(formula, there))
            columns.append(column)
        return Sheet(columns)

    def test_a_part_beyond_the_sheet_stays(self):
        beyond = Sheet([(NONE, name(("by", -1)), NONE), (NONE, name(("at", 2)), NONE)])
        self.assertEqual(move_column(beyond, 0, 1)[1][1], name(("by", -1)))
        self.assertEqual(put_column(beyond, 0, NEW)[2][1], name(("at", 2)))
        self.assertEqual(strike_column(beyond, 0)[0][1], name(("at", 2)))


class NoColumns(EditCase):
    def test_any_values(self):
        bad = [thing for thing in some_values() + [-1, 3, 10 ** 40] if thing not in (0, 1) or isinstance(thing, bool)]
        for thing in bad:
            if thing != 3:
                self.no_column(thing, put_column, self.sheet, thing, NEW)
            self.no_column(thing, strike_column, self.sheet, thing)
            self.no_column(thing, move_column, self.sheet, thing, 0)
            self.no_column(thing, move_column, self.sheet, 0, thing)
            self.no_column(thing, exchange, self.sheet, thing, 1)
            self.no_column(thing, exchange, self.sheet, 1, thing)
            self.no_column(thing, set_formula, self.sheet, thing, "body", NONE)
            self.no_column(thing, copy_columns, self.sheet, thing, 0, 1)
            self.no_column(thing, copy_columns, self.sheet, 0, thing, 1)

    def test_at_the_end(self):
        self.no_column(4, put_column, self.sheet, 4, NEW)
        self.no_column(3, strike_column, self.sheet, 3)
        for edit in (move_column, exchange):
            self.no_column(3, edit, self.sheet, 0, 3)
            self.no_column(3, edit, self.sheet, 3, 0)

    def test_no_columns_at_all(self):
        empty = Sheet([])
        self.no_column(1, put_column, empty, 1, NEW)
        self.no_column(0, strike_column, empty, 0)
        self.no_column(0, move_column, empty, 0, 0)
        self.no_column(0, exchange, empty, 0, 0)
        self.no_column(0, copy_columns, empty, 0, 0, 1)
        self.no_column(0, set_formula, empty, 0, "body", NONE)

    def test_two_faults_at_once(self):
        for edit in (move_column, exchange):
            self.no_column(None, edit, self.sheet, None, 9)
            self.no_column(9, edit, self.sheet, 9, None)
            self.no_column(True, edit, self.sheet, True, False)
        self.no_column("x", copy_columns, self.sheet, "x", True, 9)
        self.no_column(True, copy_columns, self.sheet, 2, True, 9)
        self.no_column(10, copy_columns, self.sheet, 2, 1, 9)
        self.no_column(9, copy_columns, self.sheet, 1, 2, 9)
        self.no_column((), set_formula, self.sheet, (), "nowhere", None)

    def test_copies_beyond_the_end(self):
        self.no_column(3, copy_columns, self.sheet, 2, 0, 2)
        self.no_column(3, copy_columns, self.sheet, 0, 2, 2)
        self.no_column(4, copy_columns, self.sheet, 2, 1, 3)
        self.no_column(3, copy_columns, self.sheet, 1, 2, 3)
        self.no_column(10 ** 50, copy_columns, self.sheet, 1, 2, 10 ** 50)
        self.assertEqual(copy_columns(self.sheet, 0, 0, 3), self.sheet)


class NamesAreLed(EditCase):
    """[8]: an edit leaves the values of the cells whose names and ranges mean columns ahead of it and behind it."""

    def check(self, sheet, edited, places, rows, contents):
        led_contents = {(places[column], row): number for (column, row), number in contents.items()
                        if places[column] is not None}
        old, new = reckoner.values(sheet, rows, contents), reckoner.values(edited, rows, led_contents)
        for (column, row), value in old.items():
            if places[column] is not None:
                if self.all_there(sheet, rows, (column, row)) and self.all_there(edited, rows, (places[column], row)):
                    self.assertEqual(new[(places[column], row)], value)
                    self.compared += 1

    def all_there(self, sheet, rows, address):
        cells = [address] + sorted(reckoner.hanging(sheet, rows, address))
        return all(sheet.means(cell, read, rows) is not None
                   for cell in cells for read in reads(sheet.formula_at(cell, rows)))

    def test_drawn(self):
        draw = Draw(8)
        self.compared = 0
        for _ in range(60):
            sheet = draw.sheet()
            many, rows = len(sheet), draw.number(0, 4)
            contents = {address: draw.number(-9, 9) for address in sheet.inputs(rows) if draw.number(0, 3)}
            at = draw.number(0, many)
            self.check(sheet, put_column(sheet, at, number_column(3)), [c + (c >= at) for c in range(many)], rows, contents)
            if many == 0:
                continue
            one, other = draw.number(0, many - 1), draw.number(0, many - 1)
            self.check(sheet, strike_column(sheet, one), [None if c == one else c - (c > one) for c in range(many)], rows,
                       contents)
            order = [c for c in range(many) if c != one]
            order.insert(other, one)
            self.check(sheet, move_column(sheet, one, other), [order.index(c) for c in range(many)], rows, contents)
            places = list(range(many))
            places[one], places[other] = other, one
            self.check(sheet, exchange(sheet, one, other), places, rows, contents)
        self.assertGreater(self.compared, 1000)


if __name__ == "__main__":
    unittest.main()
