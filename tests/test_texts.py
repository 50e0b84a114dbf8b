"""[120] texts of sheets, contents, addresses, values and grids."""

import unittest

from longsheet.notation import show_formula
from longsheet.reckoning import values
from longsheet.sheets import Sheet
from longsheet.texts import show_cell, show_contents, show_grid, show_sheet, show_value
from tests.test_reckoning import sheet_of
from tests.things import FAR, Draw


class Texts(unittest.TestCase):
    def test_sheets(self):
        text = "empty | input | total(.[:])\ninput | sum(.[-1], <1[0]) | . last 0\n"
        self.assertEqual(show_sheet(sheet_of(*text.split("\n")[:-1])), text)
        self.assertEqual(show_sheet(Sheet([])), "")
        draw = Draw(1200)
        for _ in range(60):
            sheet = draw.sheet()
            lines = show_sheet(sheet).split("\n")
            self.assertEqual(lines.pop(), "")
            self.assertEqual(lines, [" | ".join(show_formula(formula) for formula in column) for column in sheet.columns()])

    def test_contents(self):
        self.assertEqual(show_contents({}), "")
        self.assertEqual(show_contents({(1, 0): 5, (0, 10): -FAR, (0, 2): 0, (1, -1): FAR, (12, -1): 7}),
                         "0 2 0\n0 10 -1000000000000\n1 head 1000000000000\n1 0 5\n12 head 7\n")

    def test_cells(self):
        self.assertEqual([show_cell((0, row), 3) for row in (-1, 0, 2, 3)], ["0 head", "0 0", "0 2", "0 foot"])
        self.assertEqual([show_cell((11, row), 0) for row in (-1, 0)], ["11 head", "11 foot"])
        self.assertEqual(show_cell((7, 29), 30), "7 29")

    def test_values(self):
        self.assertEqual([show_value(value) for value in (0, 5, -17, None, "#lost", "#ring", "#zero")],
                         ["0", "5", "-17", "-", "#lost", "#ring", "#zero"])
        self.assertEqual([show_value(sign * 10 ** many) for sign in (1, -1) for many in (59, 60, 61)],
                         [sign + "1" + "0" * many for sign in ("", "-") for many in (59, 60, 61)])
        # More digits than Python writes at once.
        self.assertEqual(show_value(10 ** 9999 - 1), "9" * 9999)
        self.assertEqual(show_value(-(12 * 10 ** 9000 + 34 * 10 ** 60 + 56)), "-12" + ("34" + "56".zfill(60)).zfill(9000))

    def test_grids(self):
        sheet = sheet_of("input | case(>1[0] = 0, ?[0], over(6, >1[0])) | most(. head)", "empty | input | total(.[:])",
                         "$2 head | 3 | <2 last 1",
                         "7 | .[-1] | over(1, <1 last 5)")
        self.assertEqual(show_grid(sheet, 3, {(0, -1): 4, (1, 0): 0, (1, 1): -4, (1, 2): 3, (2, 0): 8}),
                         "4 | - | #ring | 7\n#lost | 0 | 3 | 7\n-2 | -4 | 3 | 7\n2 | 3 | 3 | 7\n4 | -1 | -2 | #zero\n")
        self.assertEqual(show_grid(sheet, 0, {}), "- | - | #ring | 7\n- | 0 | - | #zero\n")
        self.assertEqual([show_grid(Sheet([]), 0, {}), show_grid(Sheet([]), 2, {(0, 0): 1})], ["\n\n", "\n\n\n\n"])

    def test_grids_of_great_values(self):
        sheet = sheet_of("1 | times(1000000000000, times(1000000000000, times(1000000000000, times(1000000000000, .[-1])))) | empty")
        grid = show_grid(sheet, 100, {})
        self.assertEqual(grid.split("\n")[100], "1" + "0" * 4800)

    def test_drawn_grids(self):
        draw = Draw(1201)
        for _ in range(60):
            sheet, rows = draw.sheet(), draw.number(0, 4)
            contents = draw.contents(sheet, rows, True)
            told = values(sheet, rows, contents)
            lines = show_grid(sheet, rows, contents).split("\n")
            self.assertEqual(len(lines), rows + 3)
            for row, line in zip(range(-1, rows + 1), lines):
                words = ["-" if told[(column, row)] is None else str(told[(column, row)]) for column in range(len(sheet))]
                self.assertEqual(line, " | ".join(words))


if __name__ == "__main__":
    unittest.main()
