"""[30] sheets."""

import unittest

from longsheet.errors import NoColumn, NoFit, NoRow, Wrong
from longsheet.sheets import Sheet
from tests.things import FAR, NONE, Draw, nested, some_values

GIVEN, ZERO = ("input",), ("number", 0)
ABOVE = ("name", ("by", 0), ("by", -1))
LAST = ("name", ("by", 0), ("last", 0))
PAID = (NONE, GIVEN, ("total", ("rows", ("by", 0), None, None)))
BALANCE = (GIVEN, ("sum", (ABOVE, ("name", ("by", -1), ("by", 0)))), LAST)


def name(column, row):
    return ("name", column, row)


class Making(unittest.TestCase):
    def raised(self, error, columns):
        with self.assertRaises(error) as caught:
            Sheet(columns)
        return caught.exception

    def test_lists_and_tuples(self):
        sheet = Sheet([PAID, BALANCE])
        for columns in ((PAID, BALANCE), [list(PAID), BALANCE], (list(PAID), list(BALANCE)), [PAID, list(BALANCE)]):
            other = Sheet(columns)
            self.assertEqual(other, sheet)
            self.assertEqual(other.columns(), [PAID, BALANCE])
            self.assertIs(type(other[0]), tuple)

    def test_no_columns_and_eight(self):
        for many in (0, 1, 8):
            sheet = Sheet([PAID] * many)
            self.assertEqual(len(sheet), many)
            self.assertEqual(sheet.columns(), [PAID] * many)
        self.assertEqual(Sheet([]), Sheet(()))

    def test_more_than_eight_are_no_error(self):
        self.assertEqual(len(Sheet([PAID] * 9)), 9)

    def test_what_was_passed_is_changed_later(self):
        column = [NONE, GIVEN, NONE]
        columns = [column, BALANCE]
        sheet = Sheet(columns)
        column[1] = ZERO
        columns.append(PAID)
        self.assertEqual(sheet.columns(), [(NONE, GIVEN, NONE), BALANCE])
        self.assertEqual(sheet[0], (NONE, GIVEN, NONE))
        self.assertEqual(columns, [[NONE, ZERO, NONE], BALANCE, PAID])

    def test_told_lists_are_changed_and_asked_again(self):
        sheet = Sheet([PAID, BALANCE])
        for ask in (sheet.columns, lambda: sheet.inputs(2), lambda: sheet.addresses(2),
                    lambda: sheet.means((1, 0), ABOVE, 2)):
            told = ask()
            kept = list(told)
            told.reverse()
            told.append(None)
            self.assertEqual(ask(), kept)
            self.assertIsNot(ask(), ask())

    def test_wrong(self):
        for thing in some_values() + [nested(30), [PAID, None], [PAID[:2]], [PAID + (NONE,)], [None], [[NONE, NONE]],
                                      {0: PAID}, [PAID, "abc"], [(NONE, ("sum", [NONE]), NONE)], PAID, "abc",
                                      [(NONE, NONE, ("number", FAR + 1))], [(NONE, NONE, ("number", True))],
                                      [{NONE, GIVEN, ZERO}], [[GIVEN, GIVEN, None]], [(NONE, ["empty"], NONE)]]:
            if thing not in ([], ()):
                self.assertEqual(self.raised(Wrong, thing).place, 0, thing)

    def test_wrong_comes_ahead_of_no_fit(self):
        self.assertEqual(self.raised(Wrong, [(ABOVE, NONE, NONE), (NONE, NONE, None)]).place, 0)
        self.assertEqual(self.raised(Wrong, [(ABOVE, NONE, NONE), None]).place, 0)

    def test_no_fit(self):
        inner = ("sum", (GIVEN,))
        for columns, place in (([(ABOVE, NONE, NONE)], (0, "head")), ([(NONE, LAST, NONE)], (0, "body")),
                               ([(NONE, NONE, GIVEN)], (0, "foot")), ([PAID, (NONE, NONE, ABOVE)], (1, "foot")),
                               ([PAID, (NONE, LAST, ABOVE)], (1, "body")), ([(NONE, NONE, GIVEN), (LAST, NONE, NONE)],
                                                                            (0, "foot")),
                               ([PAID, BALANCE, (inner, inner, inner)], (2, "head")), ([(NONE, inner, NONE)], (0, "body")),
                               ([(PAID[2], NONE, NONE)], (0, "head")),
                               ([(NONE, NONE, ("top", ("rows", ("by", 0), 0, None)))], (0, "foot"))):
            self.assertEqual(self.raised(NoFit, columns).place, place)
            self.assertEqual(self.raised(NoFit, tuple(columns)).place, place)


class Asking(unittest.TestCase):
    def setUp(self):
        self.sheet = Sheet([PAID, BALANCE])

    def test_columns_by_index(self):
        self.assertEqual([self.sheet[0], self.sheet[1]], [PAID, BALANCE])
        for thing in [thing for thing in some_values() if thing not in (0, 1) or isinstance(thing, bool)] + [
                2, -1, slice(0, 1), (0,), "0"]:
            with self.assertRaises(NoColumn) as caught:
                self.sheet[thing]
            self.assertIs(caught.exception.column, thing)
        with self.assertRaises(NoColumn):
            Sheet([])[0]

    def test_it_is_not_iterated_over(self):
        with self.assertRaises(TypeError):
            list(self.sheet)

    def test_equality(self):
        other = Sheet([PAID, BALANCE])
        self.assertIs(self.sheet == other, True)
        self.assertIs(self.sheet != other, False)
        for thing in some_values() + [Sheet([BALANCE, PAID]), Sheet([PAID]), [PAID, BALANCE], (PAID, BALANCE),
                                      Sheet([PAID, BALANCE, PAID]), self.sheet.columns()]:
            self.assertIs(self.sheet == thing, False)
            self.assertIs(thing == self.sheet, False)
            self.assertIs(self.sheet != thing, True)
        self.assertIs(Sheet([]) == [], False)

    def test_addresses(self):
        self.assertEqual(self.sheet.addresses(0), [(0, -1), (0, 0), (1, -1), (1, 0)])
        self.assertEqual(self.sheet.addresses(1), [(0, -1), (0, 0), (0, 1), (1, -1), (1, 0), (1, 1)])
        self.assertEqual(len(self.sheet.addresses(30)), 64)
        self.assertEqual(Sheet([]).addresses(5), [])
        for rows in (30, 0, 1, 30, 0):
            told = self.sheet.addresses(rows)
            self.assertEqual(told, sorted(told))
            self.assertEqual(len(set(told)), 2 * (rows + 2))

    def test_inputs(self):
        for rows in (0, 1, 30, 1, 0):
            self.assertEqual(self.sheet.inputs(rows), [(0, row) for row in range(rows)] + [(1, -1)])
        self.assertEqual(Sheet([]).inputs(3), [])
        self.assertEqual(Sheet([(GIVEN, GIVEN, NONE)] * 2).inputs(1), [(0, -1), (0, 0), (1, -1), (1, 0)])
        self.assertEqual(Sheet([(NONE, NONE, NONE)]).inputs(4), [])

    def test_formula_at(self):
        for rows in (0, 1, 30, 0):
            for column, (head, body, foot) in enumerate((PAID, BALANCE)):
                self.assertEqual(self.sheet.formula_at((column, -1), rows), head)
                self.assertEqual(self.sheet.formula_at((column, rows), rows), foot)
                for row in range(rows):
                    self.assertEqual(self.sheet.formula_at((column, row), rows), body)

    def test_no_formula_at(self):
        for address in ((2, 0), (-1, 0), (2, 99), (True, 0), (10 ** 40, -5)):
            with self.assertRaises(NoColumn) as caught:
                self.sheet.formula_at(address, 3)
            self.assertIs(caught.exception.column, address[0])
        for rows, row in ((3, 4), (3, -2), (0, 1), (30, 31), (3, 10 ** 40), (3, True)):
            with self.assertRaises(NoRow) as caught:
                self.sheet.formula_at((1, row), rows)
            self.assertIs(caught.exception.row, row)


class Meaning(unittest.TestCase):
    def setUp(self):
        self.sheet = Sheet([PAID, BALANCE, (NONE, NONE, NONE)])

    def test_columns(self):
        for part, column in ((("by", 0), 1), (("by", -1), 0), (("by", 1), 2), (("at", 0), 0), (("at", 2), 2)):
            self.assertEqual(self.sheet.means((1, 2), name(part, ("by", 0)), 3), [(column, 2)])
            self.assertEqual(self.sheet.means((1, 2), ("rows", part, 0, 0), 3), [(column, 2)])
            self.assertEqual(self.sheet.means((1, -1), name(part, ("head",)), 3), [(column, -1)])
        for part in (("by", -2), ("by", 2), ("at", 3), ("lost",), ("by", -7), ("at", 7)):
            for read in (name(part, ("by", 0)), name(part, ("by", 99)), name(part, ("head",)), ("rows", part, 5, -5)):
                self.assertIsNone(self.sheet.means((1, 2), read, 3))
            self.assertIsNone(self.sheet.means((1, 3), name(part, ("last", 0)), 3))

    def test_names_in_bodies(self):
        for rows in (1, 30, 4, 1):
            for row in range(rows):
                for distance in range(-5, 6):
                    led = row + distance
                    told = [(0, led)] if -1 <= led < rows else []
                    self.assertEqual(self.sheet.means((1, row), name(("by", -1), ("by", distance)), rows), told)
                self.assertEqual(self.sheet.means((1, row), name(("by", 0), ("head",)), rows), [(1, -1)])

    def test_names_in_heads_and_feet(self):
        for rows in (0, 1, 30, 2, 0):
            self.assertEqual(self.sheet.means((0, -1), name(("by", 0), ("head",)), rows), [(0, -1)])
            self.assertEqual(self.sheet.means((0, rows), name(("by", 2), ("head",)), rows), [(2, -1)])
            self.assertEqual(self.sheet.means((0, rows), name(("by", 0), ("foot",)), rows), [(0, rows)])
            for distance in range(6):
                led = rows - 1 - distance
                told = [(2, led)] if led >= -1 else []
                self.assertEqual(self.sheet.means((0, rows), name(("at", 2), ("last", distance)), rows), told)
        self.assertEqual(self.sheet.means((0, 0), name(("by", 0), ("last", 0)), 0), [(0, -1)])
        self.assertEqual(self.sheet.means((0, 0), name(("by", 0), ("last", 1)), 0), [])

    def test_ranges_in_bodies(self):
        ends = [None] + list(range(-5, 6))
        for rows in (1, 7, 30):
            for row in range(rows):
                for low in ends:
                    for high in ends:
                        told = [(0, there) for there in range(rows) if (low is None or there >= row + low)
                                and (high is None or there <= row + high)]
                        self.assertEqual(self.sheet.means((1, row), ("rows", ("at", 0), low, high), rows), told)

    def test_ranges_in_feet(self):
        for rows in (0, 1, 30):
            told = self.sheet.means((1, rows), ("rows", ("by", -1), None, None), rows)
            self.assertEqual(told, [(0, row) for row in range(rows)])

    def test_drawn(self):
        draw = Draw(30)
        for _ in range(100):
            sheet = draw.sheet()
            for rows in (0, 3):
                self.assertEqual([sheet.formula_at(address, rows)[0] == "input" for address in sheet.addresses(rows)],
                                 [address in sheet.inputs(rows) for address in sheet.addresses(rows)])


if __name__ == "__main__":
    unittest.main()
