"""[101] whatif: values with other numbers in the inputs."""

import unittest

from longsheet.reckoning import value_at
from longsheet.values import plain
from longsheet.whatif import first_with, table, what_if
from tests.test_reckoning import sheet_of
from tests.things import FAR, Draw

SHEET = sheet_of("input | case(>1[0] > 2, over(100, >1[0]), .[-1]) | . last 0", "empty | input | total(.[:])")


def put_in(contents, moving, numbers):
    later = dict(contents)
    for address, number in zip(moving, numbers):
        later.pop(address, None)
        if number is not None:
            later[address] = number
    return later


class WhatIf(unittest.TestCase):
    def test_told(self):
        contents = {(0, -1): 7, (1, 1): 50}
        asked = [[3, 5], [5, None], [None, None], [0, 4], [9, 2]]
        self.assertEqual(what_if(SHEET, 2, contents, (0, 2), [(1, 0), (1, 1)], asked), [20, 20, 7, 25, 11])
        self.assertEqual(what_if(SHEET, 2, contents, (0, 2), [], [[], []]), [2, 2])
        self.assertEqual(what_if(SHEET, 2, contents, (0, 2), [(1, 0)], []), [])
        self.assertEqual(what_if(SHEET, 2, contents, (1, 0), [(1, 0)], [[4], [None], [-FAR]]), [4, None, -FAR])
        self.assertEqual(what_if(SHEET, 2, contents, (1, 1), [(1, 0)], [[4]]), [50])
        self.assertEqual(contents, {(0, -1): 7, (1, 1): 50})

    def test_other_keys_and_errors(self):
        self.assertEqual(what_if(sheet_of("empty | input | over(6, . last 0)"), 1, {(0, 1): 9, (0, -1): 5, (7, 7): 1}, (0, 1),
                                 [(0, 0)], [[0], [4], [None]]),
                         ["#zero", 1, "#zero"])

    def test_integers_beyond_numbers(self):
        # A solution may be made of such; no error is told for them.
        contents = {(0, -1): 10 ** 20}
        self.assertEqual(what_if(SHEET, 1, contents, (1, 1), [(1, 0)], [[10 ** 13], [-10 ** 50]]), [10 ** 13, -10 ** 50])
        self.assertEqual(what_if(SHEET, 1, contents, (0, 1), [(1, 0)], [[0]]), [10 ** 20])
        self.assertEqual(table(SHEET, 1, contents, (1, 1), (1, 0), (0, -1), [10 ** 13], [1]), [[10 ** 13]])
        self.assertEqual(first_with(SHEET, 1, contents, ((1, 1), 10 ** 13), (1, 0), 10 ** 13 - 9, 10 ** 13), 10 ** 13)

    def test_table(self):
        contents = {(0, -1): 7, (1, 1): 50}
        self.assertEqual(table(SHEET, 2, contents, (0, 2), (0, -1), (1, 1), [1, 2, 3], [0, 4]), [[1, 25], [2, 25], [3, 25]])
        self.assertEqual(table(SHEET, 2, contents, (0, 2), (1, 1), (0, -1), [0, 4], [1, 2, 3]), [[1, 2, 3], [25, 25, 25]])
        self.assertEqual([table(SHEET, 2, {}, (0, 2), (1, 1), (0, -1), *lists) for lists in (([], [1]), ([1, 2], []), ([], []))],
                         [[], [[], []], []])
        self.assertEqual(table(SHEET, 2, {}, (1, 1), (1, 1), (0, -1), [0, 4], [1]), [[0], [4]])

    def test_first_with(self):
        self.assertEqual(first_with(SHEET, 1, {}, ((0, 1), 25), (1, 0), -50, 50), 4)
        self.assertEqual(first_with(SHEET, 1, {}, ((0, 1), 10), (1, 0), -50, 50), 10)
        self.assertEqual(first_with(SHEET, 1, {(0, -1): 5}, ((0, 1), 5), (1, 0), -50, 50), -50)
        self.assertEqual(first_with(SHEET, 1, {(0, -1): 5}, ((0, 1), 5), (1, 0), 3, 50), 17)
        self.assertIsNone(first_with(SHEET, 1, {(0, -1): 6}, ((0, 1), 5), (1, 0), 21, 50))
        self.assertIsNone(first_with(SHEET, 1, {}, ((0, 1), 25), (1, 0), 5, 205))
        self.assertEqual([first_with(SHEET, 1, {}, ((0, 1), 25), (1, 0), *ends) for ends in ((4, 4), (3, 3),
                                                                                             (-FAR, -FAR + 200))],
                                                                                             [4, None, None])
        self.assertEqual(first_with(SHEET, 1, {}, ((1, 0), FAR), (1, 0), FAR - 200, FAR), FAR)
        # An empty value is 0, and an error is no number.
        sheet = sheet_of("empty | input | case(over(1, . last 0) = 0, empty, 5)")
        self.assertEqual([first_with(sheet, 1, {}, ((0, 1), number), (0, 0), 0, 9) for number in (0, 5)], [2, 1])

    def test_drawn(self):
        draw = Draw(1010)
        asked = 0
        for _ in range(80):
            sheet, rows = draw.sheet(), draw.number(0, 3)
            inputs = sheet.inputs(rows)
            if not inputs:
                continue
            contents, address = draw.contents(sheet, rows, True), draw.one(sheet.addresses(rows))
            moving = draw.random.sample(inputs, draw.number(0, min(3, len(inputs))))
            lists = [[draw.one([None, 0, draw.number(-9, 9)]) for _ in moving] for _ in range(draw.number(0, 4))]
            self.assertEqual(what_if(sheet, rows, contents, address, moving, lists),
                             [value_at(sheet, rows, put_in(contents, moving, numbers), address) for numbers in lists])
            goal = (address, draw.number(-3, 5))
            told = [number for number in range(-6, 7) if plain(value_at(sheet, rows, put_in(contents, inputs[:1], [number]),
                                                                        address)) == goal[1]]
            self.assertEqual(first_with(sheet, rows, contents, goal, inputs[0], -6, 6), (told + [None])[0])
            if len(inputs) > 1:
                one, other = draw.random.sample(inputs, 2)
                firsts, seconds = [[draw.number(-9, 9) for _ in range(2)] for _ in range(2)]
                self.assertEqual(table(sheet, rows, contents, address, one, other, firsts, seconds),
                                 [[value_at(sheet, rows, put_in(contents, [one, other], [first, second]),
                                            address) for second in seconds]
                                  for first in firsts])
            asked += 1
        self.assertGreater(asked, 40)


if __name__ == "__main__":
    unittest.main()
