"""[134] back: which numbers of an input that leads once to a cell lead to a value of it."""

import unittest

from longsheet.back import back, errors_for, nearest, numbers_for, outcomes
from longsheet.chains import leads_once
from longsheet.errors import NotOnce
from longsheet.lots import in_lot, is_lot, lot_of
from longsheet.reckoning import value_at
from longsheet.sheets import Sheet
from longsheet.spans import Spans
from tests.test_leading import near
from tests.test_reckoning import sheet_of
from tests.things import FAR, NONE, Draw

ERRORS = ("#lost", "#ring", "#zero")
ALL = (Spans([(None, None)]), True, ERRORS)
SHARE = sheet_of("empty | input | empty", "empty | over(12, sum(<1[0], -3)) | top(.[:])")


def with_number(contents, address, number):
    """The contents with another number, or none, in an input."""
    told = {key: contents[key] for key in contents if key != address}
    if number is not None:
        told[address] = number
    return told


class Back(unittest.TestCase):
    def check(self, sheet, rows, contents, address, cell, lot, more=()):
        """What is told against the values of the cell, near the ends, at the bounds, and with the input empty."""
        told = back(sheet, rows, contents, address, cell, lot)
        self.assertIs(is_lot(told), True)
        self.assertEqual(told[2], ())
        self.assertEqual(told[0] - Spans([(-FAR, FAR)]), Spans([]))
        numbers = [number for number in near(told[0]) | {-FAR, FAR} | set(more) if -FAR <= number <= FAR]
        for number in sorted(numbers) + [None]:
            found = value_at(sheet, rows, with_number(contents, address, number), cell)
            self.assertIs(in_lot(told, number), in_lot(lot, found), (sheet.columns(), contents, address, cell, number, found))
        return told

    def check_all(self, sheet, rows, contents, address, cell, values):
        """The other four functions by `back` and by one another."""
        args = (sheet, rows, contents, address, cell)
        told = [back(*args, lot_of(value))[0] for value in values]
        self.assertEqual([numbers_for(*args, value) for value in values], told)
        self.assertEqual([nearest(*args, value) for value in values], [spans.least() for spans in told])
        left = Spans([(-FAR, FAR)])
        for spans in told:
            left = left - spans
        self.assertEqual(outcomes(*args, values), told + [left])
        wrong = {error: back(*args, lot_of(error))[0] for error in ERRORS}
        found = errors_for(*args)
        self.assertEqual(list(found.items()), [(error, wrong[error]) for error in ERRORS if len(wrong[error])])

    def test_drawn(self):
        draw = Draw(1340)
        asked = hung = 0
        for _ in range(400):
            sheet = draw.one([draw.sheet, draw.sheet, draw.input_sheet, draw.rising_sheet])()
            rows = draw.number(0, 4)
            contents = draw.contents(sheet, rows, True)
            pairs = [(address, cell) for address in sheet.inputs(rows) for cell in sheet.addresses(rows)
                     if leads_once(sheet, rows, address, cell)]
            for address, cell in draw.random.sample(pairs, min(len(pairs), 4)):
                found = [value_at(sheet, rows, with_number(contents, address, number), cell) for number in (None, 0, 3, -7, 99)]
                self.check(sheet, rows, contents, address, cell, draw.lot(), [draw.number(-FAR, FAR)])
                for value in found[:2]:
                    self.check(sheet, rows, contents, address, cell, lot_of(value), range(-9, 10))
                values = []
                for value in found + [draw.number(-9, 9), None, "#zero", "#ring"]:
                    if value not in values:
                        values.append(value)
                self.check_all(sheet, rows, contents, address, cell, values)
                asked += 1
                hung += len(set(found)) > 1 and cell != address
        self.assertTrue(asked > 500 and hung > 50, (asked, hung))

    def test_drawn_that_hang_on_one_another(self):
        draw = Draw(1341)
        hung = 0
        for _ in range(150):
            columns = [(NONE, ("input",), NONE)]
            for column in range(1, draw.number(2, 4)):
                read = ("name", draw.one([("by", -1), ("at", column - 1)]), ("by", draw.one([0, 0, -1])))
                columns.append((NONE, draw.formula_of(read, 2, 40), NONE))
            sheet, rows = Sheet(columns), 3
            contents = draw.contents(sheet, rows)
            last = len(columns) - 1
            for address in [(0, row) for row in range(3)]:
                if leads_once(sheet, rows, address, (last, 2)):
                    told = self.check(sheet, rows, contents, address, (last, 2), draw.lot(), range(-60, 61))
                    hung += 0 < len(told[0]) and told[0] != Spans([(-FAR, FAR)])
        self.assertGreater(hung, 40)

    def test_bounds(self):
        sheet = sheet_of("empty | input | empty", "empty | $0[0] | empty", "empty | times(3, $0[0]) | empty")
        args = (sheet, 1, {}, (0, 0))
        self.assertEqual(back(*args, (1, 0), ALL), (Spans([(-FAR, FAR)]), True, ()))
        self.assertEqual(back(*args, (1, 0), (Spans([(FAR, FAR + 9), (None, -FAR)]), False, ERRORS)),
                         (Spans([(-FAR, -FAR), (FAR, FAR)]), False, ()))
        self.assertEqual(back(*args, (2, 0), (Spans([(3 * FAR, None)]), True, ())), (Spans([(FAR, FAR)]), False, ()))
        self.assertEqual([numbers_for(*args, (2, 0), value).pairs() for value in (3 * FAR, 3 * FAR + 3, -3 * FAR, 1)],
                         [[(FAR, FAR)], [], [(-FAR, -FAR)], []])
        # An empty input counts as 0 here, but is no number.
        self.assertEqual(back(*args, (2, 0), lot_of(0)), (Spans([(0, 0)]), True, ()))
        self.assertEqual(back(*args, (1, 0), lot_of(None)), (Spans([]), True, ()))
        self.assertEqual([nearest(*args, (1, 0), None), numbers_for(*args, (1, 0), None)], [None, Spans([])])

    def test_the_input_itself(self):
        for contents in ({}, {(0, 0): 7}, {(0, 0): 7, (1, 0): 3, (5, 5): 9}):
            args = (SHARE, 2, contents, (0, 0), (0, 0))
            self.assertEqual(back(*args, ALL), (Spans([(-FAR, FAR)]), True, ()))
            self.assertEqual(back(*args, (Spans([(5, None)]), False, ERRORS)), (Spans([(5, FAR)]), False, ()))
            self.assertEqual([errors_for(*args), nearest(*args, 4), nearest(*args, "#zero")], [{}, 4, None])
            self.assertEqual([spans.pairs() for spans in outcomes(*args, [4, None])], [[(4, 4)], [], [(-FAR, 3), (5, FAR)]])

    def test_what_contents_have_for_the_input_means_nothing(self):
        for number in (None, 0, 3, 6, -FAR):
            contents = with_number({(0, 0): 3}, (0, 1), number)
            self.assertEqual(numbers_for(SHARE, 2, contents, (0, 1), (1, 1), 4).pairs(), [(6, 6)])
            self.assertEqual(errors_for(SHARE, 2, contents, (0, 1), (1, 2)), {"#zero": Spans([(-FAR, FAR)])})
        self.assertEqual({error: spans.pairs() for error, spans in errors_for(SHARE, 2, {(0, 0): 4}, (0, 1), (1, 2)).items()},
                         {"#zero": [(3, 3)]})

    def test_errors_ascend(self):
        sheet = sheet_of("empty | input | empty", "empty | case($0[0] = 3, over(1, 0), ?[0]) | empty",
                         "empty | case($1[0] = 0, 1, 2) | empty")
        for cell in ((1, 0), (2, 0)):
            found = errors_for(sheet, 1, {}, (0, 0), cell)
            self.assertEqual([(error, spans.pairs()) for error, spans in found.items()],
                             [("#lost", [(-FAR, 2), (4, FAR)]), ("#zero", [(3, 3)])])

    def test_nearest(self):
        sheet = sheet_of("empty | input | empty", "empty | case($0[0] <> 0, 1, 2) | empty",
                         "empty | over(sum(over(12, $0[0]), 1), 2) | empty", "empty | over(sum(over(-12, $0[0]), 1), 2) | empty")
        # At 1 and -1, at 13 and -12, at 12 and -13.
        self.assertEqual([nearest(sheet, 1, {}, (0, 0), (column, 0), value) for column, value in ((1, 1), (2, 0), (3, 0))],
                         [1, -12, 12])
        self.assertEqual([nearest(sheet, 1, {}, (0, 0), (1, 0), value) for value in (2, 3, None, "#zero")], [0, None, None, None])

    def test_not_once(self):
        sheet = sheet_of("empty | input | empty", "empty | sum($0[0], $0[0]) | empty", "empty | sum($0[0], .[0]) | empty")
        for address, cell in (((0, 0), (1, 0)), ((0, 0), (1, 1)), ((0, 1), (0, 0)), ((0, 0), (2, 0)), ((0, 0), (0, -1))):
            for asked in (lambda: back(sheet, 2, {}, address, cell, ALL), lambda: numbers_for(sheet, 2, {}, address, cell, 0),
                          lambda: errors_for(sheet, 2, {}, address, cell), lambda: outcomes(sheet, 2, {}, address, cell, []),
                          lambda: nearest(sheet, 2, {}, address, cell, 0)):
                with self.assertRaises(NotOnce) as caught:
                    asked()
                self.assertEqual(caught.exception.cell, cell)

    def test_told_things_may_be_changed(self):
        args = (SHARE, 2, {(0, 0): 4}, (0, 1), (1, 2))
        found = errors_for(*args)
        found["#lost"] = None
        spans = outcomes(*args, [12, 4])
        spans.clear()
        self.assertEqual([list(errors_for(*args)), len(outcomes(*args, [12, 4])), outcomes(*args, [])],
                         [["#zero"], 3, [Spans([(-FAR, FAR)])]])

    def test_by_turns(self):
        kept = [[nearest(SHARE, rows, {(0, 0): number}, (0, 0), (1, 0), 3) for rows in (1, 2, 1)] for number in (1, 2, 1)]
        self.assertEqual(kept, [[7] * 3] * 3)
        for rows in (1, 3, 2, 1):
            last = (0, rows - 1)
            self.assertEqual(numbers_for(SHARE, rows, {}, last, (1, rows - 1), -4).pairs(), [(0, 0)])
            self.assertEqual(numbers_for(SHARE, rows, {(0, 0): 5}, last, (1, rows), 6).pairs(),
                             [(5, 5)] if rows == 1 else [(-FAR, 2), (5, FAR)])

    def test_a_long_way(self):
        columns = []
        for column in range(8):
            left = ("name", ("by", -1) if column else ("at", 7), ("by", 0 if column else -1))
            columns.append((("input",) if column == 7 else NONE, ("sum", (("times", -1, left), ("number", column))), NONE))
        sheet = Sheet(columns)
        told = self.check(sheet, 30, {}, (7, -1), (7, 29), (Spans([(5, 9), (12, None)]), False, ()))
        self.assertEqual(len(told[0]), 2)


if __name__ == "__main__":
    unittest.main()
