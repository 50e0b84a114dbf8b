"""[131] chains: inputs that lead once to a cell."""

import unittest

from longsheet.chains import chain, leads_once
from longsheet.errors import NotOnce
from longsheet.formulas import reads
from longsheet.sheets import Sheet
from tests import reckoner
from tests.test_reckoning import sheet_of
from tests.things import NONE, Draw


def plain_chain(sheet, rows, address, cell):
    """The way by the words of the definition, or None."""
    rings = set(reckoner.on_rings(sheet, rows))
    if cell in rings or reckoner.hanging(sheet, rows, cell) & rings:
        return None
    way = [cell]
    while way[-1] != address:
        formula = sheet.formula_at(way[-1], rows)
        meaning = []
        for read in reads(formula):
            for other in sheet.means(way[-1], read, rows) or []:
                if other == address or address in reckoner.hanging(sheet, rows, other):
                    meaning.append(other)
        if len(meaning) != 1:
            return None
        way.append(meaning[0])
    return way


class Chains(unittest.TestCase):
    def check(self, sheet, rows, address, cell, told):
        self.assertIs(leads_once(sheet, rows, address, cell), told is not None, (sheet.columns(), address, cell))
        if told is None:
            with self.assertRaises(NotOnce) as caught:
                chain(sheet, rows, address, cell)
            self.assertEqual(caught.exception.cell, cell)
        else:
            self.assertEqual(chain(sheet, rows, address, cell), told)

    def test_each_input_and_each_cell(self):
        draw = Draw(1310)
        once = more = 0
        for _ in range(500):
            sheet = draw.one([draw.sheet, draw.linear_sheet, draw.rising_sheet, draw.input_sheet])()
            rows = draw.number(0, 4)
            for address in sheet.inputs(rows):
                for cell in sheet.addresses(rows):
                    told = plain_chain(sheet, rows, address, cell)
                    self.check(sheet, rows, address, cell, told)
                    once += told is not None
                    more += told is None and address in reckoner.hanging(sheet, rows, cell)
        self.assertTrue(once > 1000 and more > 30, (once, more))

    def test_the_input_itself(self):
        sheet = sheet_of("input | input | empty", "empty | <1[0] | . last 0")
        for address in ((0, -1), (0, 0), (0, 1)):
            self.check(sheet, 2, address, address, [address])
        self.check(sheet, 2, (0, 0), (0, 1), None)
        self.check(sheet, 2, (0, 0), (0, 2), None)
        self.check(sheet, 2, (0, 1), (1, 2), [(1, 2), (1, 1), (0, 1)])
        self.check(sheet, 2, (0, 0), (1, 2), None)
        self.check(sheet, 0, (0, -1), (0, -1), [(0, -1)])

    def test_reads_that_mean_it_twice(self):
        for body, told in (("sum($0[0], 1)", True), ("sum($0[0], $0[0])", False), ("sum($0[0], <1[0])", False),
                           ("sum($0[0], total($0[0:0]))", False), ("total($0[0:0])", True), ("total($0[-1:0])", True),
                           ("total($0[1:0])", False), ("times(0, $0[0])", True), ("over(1, $0[0])", True),
                           ("case($0[0] = 1, 2, 3)", True), ("case(1 = 1, 2, $0[0])", True), ("case($0[0] = 1, $0[0], 3)", False),
                           ("sum($0[0], $0[1])", True), ("sum($0[0], $0[-1])", True), ("sum($0[0], ?[0], $7[0])", True),
                           ("sum($0[0], total(?[0:0]))", True), ("$0[0]", True), ("most($0[0], .[5])", True), ("5", False)):
            sheet = sheet_of("empty | input | empty", f"empty | {body} | empty")
            self.check(sheet, 3, (0, 1), (1, 1), [(1, 1), (0, 1)] if told else None)

    def test_two_ways(self):
        ways = ("empty | input | empty", "empty | $0[0] | empty", "empty | sum($0[0], 3) | empty")
        self.check(sheet_of(*ways, "empty | sum($1[0], $2[0]) | empty"), 2, (0, 1), (3, 1), None)
        self.check(sheet_of(*ways, "empty | sum($1[0], $2[-1]) | empty"), 2, (0, 1), (3, 1), [(3, 1), (1, 1), (0, 1)])
        self.check(sheet_of(*ways, "empty | sum($1[0], $2[-1]) | empty"), 2, (0, 0), (3, 1), [(3, 1), (2, 0), (0, 0)])
        # Behind the two ways there is just one read, but the ways part all the same.
        self.check(sheet_of(*ways[:2], "empty | sum($0[0], $1[0]) | empty", "empty | $2[0] | empty"), 2, (0, 1), (3, 1), None)
        self.check(sheet_of("input | sum(.[-1], 1) | . last 0"), 4, (0, -1), (0, 4),
                   [(0, 4), (0, 3), (0, 2), (0, 1), (0, 0), (0, -1)])
        self.check(sheet_of("input | sum(.[-1], .[-2]) | empty"), 4, (0, -1), (0, 1), None)
        self.check(sheet_of("input | sum(.[-1], . head) | empty"), 4, (0, -1), (0, 0), None)

    def test_rings(self):
        sheet = sheet_of("input | input | empty", "empty | sum($0[0], .[0]) | empty", "empty | sum($0[0], $1[0]) | $0 head",
                         "empty | $0[0] | empty")
        self.check(sheet, 2, (0, 0), (1, 0), None)
        self.check(sheet, 2, (0, 0), (2, 0), None)
        self.check(sheet, 2, (0, 0), (3, 0), [(3, 0), (0, 0)])
        self.check(sheet, 2, (0, -1), (2, 2), [(2, 2), (0, -1)])

    def test_names_that_mean_no_cell(self):
        sheet = sheet_of("empty | input | empty", "empty | sum($0[1], ?[0], $5[0], total(?[:]), .[-3]) | $0 last 1")
        self.check(sheet, 3, (0, 1), (1, 0), [(1, 0), (0, 1)])
        self.check(sheet, 3, (0, 2), (1, 2), None)
        self.check(sheet, 3, (0, 1), (1, 3), [(1, 3), (0, 1)])
        self.check(sheet, 1, (0, 0), (1, 1), None)

    def test_a_chain_through_all_cells(self):
        columns = []
        for column in range(8):
            left = ("name", ("by", -1) if column else ("at", 7), ("by", 0 if column else -1))
            columns.append((("input",) if column == 7 else NONE, ("sum", (left, ("number", 1))), NONE))
        sheet = Sheet(columns)
        order = [(column, row) for row in range(30) for column in range(8)]
        self.check(sheet, 30, (7, -1), (7, 29), order[::-1] + [(7, -1)])
        for rows, last in ((3, 2), (30, 29), (3, 2)):
            self.assertEqual(len(chain(sheet, rows, (7, -1), (7, last))), 8 * rows + 1)

    def test_two_numbers_of_rows_by_turns(self):
        sheet = sheet_of("empty | input | . last 0")
        for rows in (3, 1, 5, 3):
            self.check(sheet, rows, (0, rows - 1), (0, rows), [(0, rows), (0, rows - 1)])
            if rows > 1:
                self.check(sheet, rows, (0, 0), (0, rows), None)


if __name__ == "__main__":
    unittest.main()
