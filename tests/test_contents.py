"""[80] contents: the numbers of input cells."""

import unittest

from longsheet.contents import is_contents, lengthened, only_inputs
from longsheet.sheets import Sheet
from tests.things import FAR, NONE, Draw, nested, some_values

FOOT = ("name", ("by", 0), ("last", 0))
# Inputs in the body of column 0 and in the head of column 1.
SHEET = Sheet([(NONE, ("input",), FOOT), (("input",), NONE, NONE)])


class Contents(unittest.TestCase):
    def test_is_contents(self):
        for thing in ({}, {(0, 0): 5}, {(1, -1): -FAR, (0, 1): FAR}, {(0, 1): 0, (0, 0): 0}):
            self.assertIs(is_contents(SHEET, 2, thing), True, thing)
        for thing in ({(0, 0): FAR + 1}, {(0, 0): -FAR - 1}, {(0, 0): True}, {(0, 0): None}, {(0, 0): "1"}, {(0, 2): 1},
                      {(0, -1): 1},
                      {(1, 0): 1}, {(1, 2): 1}, {(2, 0): 1}, {(-1, 0): 1}, {(0, 3): 1}, {(0, -2): 1}, {(False, 0): 1},
                      {(0, False): 1},
                      {(1, -1, 0): 1}, {0: 1}, {"0": 1}, {None: 1}, {((0, 0),): 1}, {(0, 0): 5, (0, 2): 1}, [((0, 0), 5)],
                      ((0, 0), 5)):
            self.assertIs(is_contents(SHEET, 2, thing), False, thing)
        self.assertEqual([is_contents(SHEET, rows, {(0, 0): 1}) for rows in (0, 1, 30)], [False, True, True])
        self.assertIs(is_contents(Sheet([]), 3, {}), True)
        for thing in some_values() + [nested(30)]:
            self.assertIs(is_contents(SHEET, 2, thing), thing == {} and isinstance(thing, dict), thing)

    def test_only_inputs(self):
        told = only_inputs(SHEET, 2, {(1, -1): 4, (0, 2): 9, (0, 1): 3, (7, 0): 1, (0, -1): 2, (0, 0): 0, (0, 5): 6, (1, 0): 7})
        self.assertEqual(list(told.items()), [((0, 0), 0), ((0, 1), 3), ((1, -1), 4)])
        self.assertEqual([only_inputs(SHEET, 0, {(0, 0): 1, (1, -1): 2}), only_inputs(Sheet([]), 4, {(0, 0): 1}),
                          only_inputs(SHEET, 1, {})],
                         [{(1, -1): 2}, {}, {}])
        passed = {(0, 0): 1}
        self.assertIsNot(only_inputs(SHEET, 2, passed), passed)

    def test_lengthened(self):
        contents = {(1, -1): 4, (0, 2): 3, (0, 1): 2, (0, 0): 1, (0, 3): 8, (1, 1): 9}
        told = lengthened(SHEET, 3, contents, 5)
        # At three rows (0, 3) was a foot: what this key has meant nothing, and means nothing now.
        self.assertEqual(list(told.items()), [((0, 0), 1), ((0, 1), 2), ((0, 2), 3), ((1, -1), 4)])
        self.assertEqual(list(lengthened(SHEET, 3, contents, 2).items()), [((0, 0), 1), ((0, 1), 2), ((1, -1), 4)])
        self.assertEqual(lengthened(SHEET, 3, contents, 0), {(1, -1): 4})
        self.assertEqual(lengthened(SHEET, 0, contents, 4), {(1, -1): 4})
        self.assertEqual(contents[(0, 3)], 8)

    def test_longer_and_shorter_again(self):
        draw = Draw(80)
        for _ in range(100):
            sheet, rows = draw.sheet(), draw.number(0, 4)
            contents = draw.contents(sheet, rows)
            self.assertIs(is_contents(sheet, rows, contents), True)
            self.assertEqual(list(only_inputs(sheet, rows, contents)), sorted(contents))
            more = rows + draw.number(0, 3)
            longer = lengthened(sheet, rows, contents, more)
            self.assertIs(is_contents(sheet, more, longer), True)
            self.assertEqual(longer, contents)
            self.assertEqual(lengthened(sheet, more, longer, rows), contents)
            others = draw.contents(sheet, rows, True)
            self.assertEqual(only_inputs(sheet, rows, others), {key: others[key] for key in others if key in sheet.inputs(rows)})


if __name__ == "__main__":
    unittest.main()
