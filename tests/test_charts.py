"""[112] charts: texts of levels and rounds."""

import unittest

from longsheet.charts import draws, read_levels, show_levels, show_rounds
from longsheet.errors import NoPlan, NoText
from longsheet.graph import Web
from longsheet.levels import level, round_cells, rounds
from longsheet.rings import least_ring
from tests.things import Draw, nested, some_values

WEB = Web(2, [(0, 0, -2, -2), (1, 0, 0, 0), (1, 1, -3, -3)])


class Shown(unittest.TestCase):
    def test_told(self):
        self.assertEqual([show_levels(WEB, 0), show_rounds(WEB, 0)], ["", ""])
        self.assertEqual(show_levels(WEB, 4), "0 1\n0 1\n1 2\n1 2\n")
        self.assertEqual(show_rounds(WEB, 4), "0:0 0:1\n0:2 0:3 1:0 1:1\n1:2 1:3\n")
        self.assertEqual(show_levels(Web(1, [(0, 0, -1, -1)]), 12).split("\n")[9:], ["9", "10", "11", ""])
        self.assertEqual(show_rounds(Web(1, []), 12), "0:0 0:1 0:2 0:3 0:4 0:5 0:6 0:7 0:8 0:9 0:10 0:11\n")

    def test_there_and_back(self):
        draw = Draw(1120)
        shown = 0
        while shown < 60:
            web = draw.web(5)
            if len(web) == 0 or least_ring(web) is not None:
                continue
            shown += 1
            rows = draw.one([0, 1, 3, 9])
            told = [[level(web, rows, (column, row)) for column in range(len(web))] for row in range(rows)]
            text = show_levels(web, rows)
            self.assertEqual(text, "".join(" ".join(map(str, line)) + "\n" for line in told))
            self.assertEqual(read_levels(text), told)
            self.assertIs(draws(web, read_levels(text)), True)
            self.assertEqual(show_rounds(web, rows), "".join(
                " ".join(f"{column}:{row}" for column, row in round_cells(web, rows,
                                                                          number)) + "\n" for number in range(rounds(web, rows))))
            for at in range(rows):
                for column in range(len(web)):
                    for change in (-1, 1):
                        other = read_levels(text)
                        other[at][column] += change
                        self.assertIs(draws(web, other), False)
            if rows:
                # With a row less or more it is that of this number of rows, or of none.
                self.assertIs(draws(web, told[:-1]), read_levels(show_levels(web, rows - 1)) == told[:-1])
                self.assertIs(draws(web, told + [[0] * len(web)]), read_levels(show_levels(web,
                                                                                           rows + 1)) == told + [[0] * len(web)])


class Read(unittest.TestCase):
    def test_texts(self):
        for text, told in (("", []), ("0\n", [[0]]), ("0 1\n0 1\n", [[0, 1], [0, 1]]), ("999999 10 0\n", [[999999, 10, 0]]),
                           ("5\n6\n7\n", [[5], [6], [7]])):
            self.assertEqual(read_levels(text), told)

    def test_no_texts(self):
        for text, line in (("0", 1), ("\n", 1), (" \n", 1), ("0 \n", 1), (" 0\n", 1), ("0  1\n", 1), ("00\n", 1), ("01\n", 1),
                           ("1000000\n", 1), ("0000001\n", 1),
                           ("-1\n", 1), ("+1\n", 1), ("a\n", 1), ("1.5\n", 1), ("1_0\n", 1), ("0,1\n", 1), ("0\t1\n", 1),
                           ("0\r\n", 1), ("0 1\n0\n", 2), ("0\n0 1\n", 2),
                           ("0 1\n\n0 1\n", 2), ("0 1\n0 1", 2), ("0 1\n0 1\n0 x\n0", 3), ("0 1\n0 x", 2), ("0\n0\n\n", 3),
                           ("0\n ", 2), ("0 1\n2\n3 x\n", 2),
                           ("0 1\n2 3\n4 5\n6 7", 4), ("\n0\n", 1), ("0\n1\nx", 3), ("\u0660\n", 1), ("\u00b2\n", 1)):
            with self.assertRaises(NoText, msg=repr(text)) as caught:
                read_levels(text)
            self.assertEqual(caught.exception.line, line, repr(text))

    def test_any_value(self):
        for thing in some_values() + [nested(30)]:
            if not isinstance(thing, str):
                with self.assertRaises(NoText) as caught:
                    read_levels(thing)
                self.assertEqual(caught.exception.line, 0)

    def test_drawn_signs(self):
        draw = Draw(1121)
        for _ in range(400):
            text = "".join(draw.one("0 1\n2") for _ in range(draw.number(0, 9)))
            try:
                told = read_levels(text)
            except NoText:
                continue
            self.assertEqual("".join(" ".join(map(str, line)) + "\n" for line in told), text)
            self.assertLessEqual(len({len(line) for line in told}), 1)


class Draws(unittest.TestCase):
    def test_any_value(self):
        self.assertIs(draws(WEB, []), True)
        for thing in ([[0, 1], [0, True]], [[False, 1]], [(0, 1)], ([0, 1],), [[0]], [[0, 1, 0]], [[0, 1], []], [[]],
                      [[0, None]], [[0, "1"]], "0 1\n", {}, None):
            self.assertIs(draws(WEB, thing), False, thing)
        self.assertIs(draws(WEB, [[0, 1], [0, 1]]), True)
        for thing in some_values() + [nested(30)]:
            self.assertIs(draws(WEB, thing), isinstance(thing, list) and thing == [], thing)

    def test_many_rows(self):
        web = Web(1, [(0, 0, -1, -1)])
        self.assertIs(draws(web, [[row] for row in range(2400)]), True)
        self.assertIs(draws(web, [[row] for row in range(2400)] + [[0]]), False)

    def test_no_plan(self):
        for web, length in ((Web(1, [(0, 0, 0, 0)]), 1), (Web(2, [(0, 1, 2, 2), (1, 0, -2, -2)]), 3)):
            for asked in (lambda: show_levels(web, 0), lambda: show_rounds(web, 0), lambda: draws(web, []),
                          lambda: draws(web, None), lambda: show_rounds(web, 9)):
                with self.assertRaises(NoPlan) as caught:
                    asked()
                self.assertEqual(caught.exception.length, length)


if __name__ == "__main__":
    unittest.main()
