"""[121] readers: texts of sheets, contents and cells, read back."""

import unittest

from longsheet.errors import NoText
from longsheet.readers import read_cell, read_contents, read_sheet
from longsheet.sheets import Sheet
from longsheet.texts import show_cell, show_contents, show_sheet
from tests.things import FAR, NONE, Draw, more_values, nested

SIGNS = " |.,()[]:<>=$?-0123x\n"
SHEET = "empty | input | total(.[:])\ninput | sum(.[-1], <1[0]) | . last 0\n"


class Reading(unittest.TestCase):
    def refused(self, line, read, *args):
        with self.assertRaises(NoText, msg=repr(args)) as caught:
            read(*args)
        self.assertEqual(caught.exception.line, line, repr(args))

    def others(self, draw, text):
        """The text with a sign or a line put in, left out, or otherwise."""
        at = draw.number(0, len(text))
        found = [text[:at] + draw.one(SIGNS) + text[at:], text[:at] + text[at + 1:], text[:at] + draw.one(SIGNS) + text[at + 1:]]
        lines = text.split("\n")
        to = draw.number(0, len(lines) - 1)
        for put in ([], [""], lines[to:to + 1] * 2, [draw.one(lines)]):
            found.append("\n".join(lines[:to] + put + lines[to + 1:]))
        return found

    def check_back(self, text, read, show):
        """What is read shows just this text, or else the text is refused with a line of it."""
        try:
            told = read(text)
        except NoText as error:
            self.assertTrue(1 <= error.line <= len(text.split("\n")), repr(text))
            # What is refused is refused for this line: the lines ahead of it can be read.
            self.assertIsNotNone(read("".join(line + "\n" for line in text.split("\n")[:error.line - 1])))
            self.refused(error.line, read, "".join(line + "\n" for line in text.split("\n")[:error.line - 1])
                         + text.split("\n")[error.line - 1] + ("\n" if error.line < len(text.split("\n")) else ""))
            return 0
        self.assertEqual(show(told), text)
        return 1


class Sheets(Reading):
    def test_there_and_back(self):
        draw = Draw(1210)
        for _ in range(150):
            sheet = draw.sheet(8, 3)
            told = read_sheet(show_sheet(sheet))
            self.assertIsInstance(told, Sheet)
            self.assertEqual(told, sheet)
        self.assertEqual(read_sheet(""), Sheet([]))
        self.assertEqual(len(read_sheet("empty | input | 0\n" * 9)), 9)

    def test_changed_at_each_place(self):
        draw = Draw(1211)
        self.assertEqual(show_sheet(read_sheet(SHEET)), SHEET)
        read = 0
        for at in range(len(SHEET) + 1):
            for text in [SHEET[:at] + SHEET[at + 1:], SHEET[:at]] + [SHEET[:at] + sign + SHEET[at:] for sign in SIGNS]:
                read += self.check_back(text, read_sheet, show_sheet)
        for _ in range(300):
            for text in self.others(draw, show_sheet(draw.sheet(3))):
                read += self.check_back(text, read_sheet, show_sheet)
        self.assertGreater(read, 200)

    def test_first_line_that_cannot_stand(self):
        good = "0 | input | 1\n"
        for text, line in ((good + "0 | input | 1", 2), ("0 | input | 1", 1), ("\n", 1), (good + "\n" + good, 2), (good + "\n", 2),
                           (good + "0 | 1\n", 2), (good + "0 | 1 | 2 | 3\nx\n", 2), ("0 |input | 1\n", 1), ("0 | input | 1 \n", 1),
                           (" " + good, 1), (good * 3 + "0 | 1 | 2\nx", 5), (good + "x", 2), ("x\n" + good, 1),
                           (good + "01 | 2 | 3\n", 2), (good + "-0 | 2 | 3\n", 2), ("0|1|2\n", 1), ("0 || 1 | 2\n", 1), ("x", 1),
                           (good + "0 | 1 | 2\r\n", 2), ("0 | 1000000000001 | 2\n", 1), ("0 | - | 2\n", 1), (" | | \n", 1),
                           (" |  | \n", 1)):
            self.refused(line, read_sheet, text)

    def test_formulas_that_do_not_fit(self):
        for line in (".[0] | 1 | 2", "total(.[:]) | 1 | 2", ". foot | 1 | 2", ". last 0 | 1 | 2", "0 | . foot | 2", "0 | . last 1 | 2",
                     "0 | 1 | input", "0 | 1 | .[0]", "0 | 1 | total(.[:0])", "sum(input) | 1 | 2", "0 | sum(input) | 2"):
            self.refused(1, read_sheet, line + "\n")
            self.refused(2, read_sheet, "0 | 1 | 2\n" + line + "\nx\n")

    def test_long_integers(self):
        for digits, reads in ((60, True), (61, False)):
            text = f"0 | .[{'9' * digits}] | . last {'9' * digits}\n"
            if reads:
                self.assertEqual(show_sheet(read_sheet(text)), text)
            else:
                self.refused(1, read_sheet, text)

    def test_any_value(self):
        for thing in more_values() + [nested(30), SHEET.encode()]:
            if not isinstance(thing, str):
                self.refused(0, read_sheet, thing)
                self.refused(0, read_contents, thing)
                self.refused(0, read_cell, thing, 3)


class Contents(Reading):
    def test_there_and_back(self):
        draw = Draw(1212)
        for _ in range(200):
            told = {(draw.number(0, 30), draw.number(-1, 30)): draw.one([0, FAR, -FAR, draw.number(-99, 99)])
                    for _ in range(draw.number(0, 6))}
            found = read_contents(show_contents(told))
            self.assertEqual(list(found.items()), sorted(told.items()))
        self.assertEqual(read_contents(""), {})
        long = 10 ** 60 - 1
        self.assertEqual(read_contents(f"{long} {long} -7\n"), {(long, long): -7})
        self.assertEqual(list(read_contents("0 head 1\n0 0 2\n0 10 3\n2 head 0\n")), [(0, -1), (0, 0), (0, 10), (2, -1)])

    def test_changed_at_each_place(self):
        draw = Draw(1213)
        read = 0
        text = "0 head 12\n0 3 -4\n10 1 0\n"
        for at in range(len(text) + 1):
            for other in [text[:at] + text[at + 1:], text[:at]] + [text[:at] + sign + text[at:] for sign in SIGNS + "hd"]:
                read += self.check_back(other, read_contents, show_contents)
        for _ in range(200):
            for other in self.others(draw, text):
                read += self.check_back(other, read_contents, show_contents)
        self.assertGreater(read, 100)

    def test_first_line_that_cannot_stand(self):
        good = "0 head 1\n0 3 1\n"
        for text, line in ((good + "0 3 1\n", 3), (good + "0 2 1\n", 3), (good + "0 head 1\n", 3), ("1 0 1\n0 0 1\n", 2),
                           (good + "0 03 1\n", 3), ("0 0 01\n", 1), ("0 0 -0\n", 1), ("0 0 +1\n", 1), ("00 0 1\n", 1), ("-1 0 1\n", 1),
                           ("0 -1 1\n", 1), ("0 foot 1\n", 1), ("0 0\n", 1), ("0 0 1 2\n", 1), ("0  0 1\n", 1), ("0 0 1 \n", 1),
                           ("0 0 1", 1), (good + "0 4 1", 3), ("\n", 1), (good + "\n", 3), ("0 0 -\n", 1), ("0 0 1000000000001\n", 1),
                           ("0 0 -1000000000001\n", 1), ("0 0 x\nx\n", 1), ("0 4 1\n0 3 1\nx\n", 2), ("0 0 1\nx", 2),
                           ("x\n0 0 1", 1), ("0 Head 1\n", 1), ("0 0 1\r\n", 1), ("\u0660 0 1\n", 1), ("0 0 1e3\n", 1)):
            self.refused(line, read_contents, text)
        for digits in (61, 99):
            self.refused(1, read_contents, f"{'1' * digits} 0 1\n")
            self.refused(1, read_contents, f"0 {'1' * digits} 1\n")
            self.refused(1, read_contents, f"0 0 {'1' * digits}\n")

    def test_bounds_of_numbers(self):
        self.assertEqual(read_contents("0 0 1000000000000\n1 0 -1000000000000\n"), {(0, 0): FAR, (1, 0): -FAR})


class Cells(Reading):
    def test_there_and_back(self):
        for rows in (0, 1, 3, 30, 1, 0):
            for column in (0, 7, 26, 10 ** 60 - 1):
                for row in range(-1, rows + 1):
                    self.assertEqual(read_cell(show_cell((column, row), rows), rows), (column, row))

    def test_refused(self):
        for text in ("", "0", "0 ", " 0", "0 3", "0 4", "0 -1", "0 00", "00 0", "0 head ", " 0 head", "0  head", "0 0\n", "0 head\n",
                     "a 0", "0 Head", "0 foot 0", "-1 head", "0 last", "0 -", "head 0", "x", "0\n0", "0 01", "0 " + "1" * 61,
                     "1" * 61 + " head", "0\thead", "0 +1", "? head", "$0 head"):
            self.refused(1, read_cell, text, 3)
        self.refused(1, read_cell, "0 0", 0)
        self.assertEqual([read_cell("0 2", 3), read_cell("0 foot", 0), read_cell("0 head", 0)], [(0, 2), (0, 0), (0, -1)])

    def test_changed_at_each_place(self):
        read = 0
        for text in ("0 head", "10 foot", "7 12"):
            for at in range(len(text) + 1):
                for other in [text[:at] + text[at + 1:]] + [text[:at] + sign + text[at:] for sign in SIGNS + "hdt"]:
                    try:
                        self.assertEqual(show_cell(read_cell(other, 30), 30), other)
                        read += 1
                    except NoText as error:
                        self.assertEqual(error.line, 1)
        self.assertGreater(read, 10)


if __name__ == "__main__":
    unittest.main()
