"""[81] reckoning: what hangs on what, rings, orders and values."""

import unittest

from longsheet.errors import Ring
from longsheet.notation import read_formula
from longsheet.reckoning import (hanging, is_order, is_ring, next_cells, on_rings, order_for, value_at, values)
from longsheet.sheets import Sheet
from tests import reckoner
from tests.things import NONE, Draw, nested, some_values


def sheet_of(*lines):
    """A sheet by the texts of its heads, bodies and feet."""
    return Sheet([tuple(read_formula(text) for text in line.split(" | ")) for line in lines])


class Reckoning(unittest.TestCase):
    def check(self, sheet, rows, contents):
        addresses = sheet.addresses(rows)
        told = reckoner.values(sheet, rows, contents)
        self.assertEqual(values(sheet, rows, contents), told, (sheet.columns(), rows, contents))
        self.assertEqual(list(values(sheet, rows, contents)), addresses)
        rings = reckoner.on_rings(sheet, rows)
        self.assertEqual(on_rings(sheet, rows), rings)
        for address in addresses:
            self.assertEqual(next_cells(sheet, rows, address), reckoner.next_cells(sheet, rows, address))
            self.assertEqual(hanging(sheet, rows, address), sorted(reckoner.hanging(sheet, rows, address)))
            self.assertEqual(value_at(sheet, rows, contents, address), told[address])
        try:
            order = order_for(sheet, rows)
        except Ring as error:
            self.assertTrue(rings)
            self.assertIs(is_ring(sheet, rows, error.ring), True)
            self.assertTrue(set(error.ring) <= set(rings))
            self.assertIs(is_order(sheet, rows, addresses), False)
        else:
            self.assertFalse(rings)
            self.assertEqual(sorted(order), addresses)
            self.assertIs(is_order(sheet, rows, order), True)
            places = {address: at for at, address in enumerate(order)}
            for address in addresses:
                self.assertTrue(all(places[other] < places[address] for other in next_cells(sheet, rows, address)))
        return rings

    def test_drawn(self):
        draw = Draw(81)
        kinds, ringed = set(), 0
        for turn in range(300):
            sheet, rows = draw.sheet(), draw.one([0, 1, 2, 4])
            contents = draw.contents(sheet, rows, turn % 2 == 0)
            ringed += bool(self.check(sheet, rows, contents))
            kinds |= {value if value is None or isinstance(value, str) else int
                      for value in values(sheet, rows, contents).values()}
        self.assertEqual(kinds, {None, int, "#lost", "#ring", "#zero"})
        self.assertTrue(60 < ringed < 240)

    def test_linear(self):
        draw = Draw(82)
        for _ in range(60):
            sheet, rows = draw.linear_sheet(), draw.one([0, 1, 3])
            self.check(sheet, rows, draw.contents(sheet, rows))

    def test_thirty_rows(self):
        sheet = sheet_of("input | sum(.[-1], >1[0]) | . last 0", "empty | input | total(.[:])")
        contents = {(1, row): row for row in range(30)}
        contents[(0, -1)] = 1000
        told = values(sheet, 30, contents)
        self.assertEqual([told[(0, 30)], told[(1, 30)], told[(0, 7)]], [1435, 435, 1028])
        self.assertEqual(value_at(sheet, 30, contents, (0, 30)), 1435)
        self.check(sheet_of("1 | case(.[-1] > 100, over(.[-1], 3), sum(.[-1], .[-2])) | top(.[:])"), 30, {})

    def test_rings_in_bodies_heads_and_feet(self):
        # Heads that read each other, feet that do, a body cell that reads itself, and one two rows off.
        for lines, rows, rings in (
                (["$1 head | empty | empty", "$0 head | empty | empty"], 0, [(0, -1), (1, -1)]),
                (["$0 head | empty | empty"], 2, [(0, -1)]),
                (["empty | empty | $1 foot", "empty | empty | sum(1, $0 foot)"], 1, [(0, 1), (1, 1)]),
                (["empty | .[0] | empty"], 2, [(0, 0), (0, 1)]), (["empty | .[0] | empty"], 0, []),
                (["empty | total(.[:]) | empty"], 1, [(0, 0)]), (["empty | total(.[1:]) | empty"], 3, []),
                (["empty | >1[2] | empty", "empty | <1[-2] | empty"], 2, []),
                (["empty | >1[2] | empty", "empty | <1[-2] | empty"], 3, [(0, 0), (1, 2)]),
                (["$0 head | . head | . last 0"], 1, [(0, -1)])):
            sheet = sheet_of(*lines)
            self.assertEqual(on_rings(sheet, rows), rings, lines)
            self.check(sheet, rows, {})

    def test_what_hangs_on_a_ring(self):
        sheet = sheet_of("$0 head | case(1 = 1, 5, . head) | . last 0", "empty | sum(<1[-1], 1) | <1 foot",
                         "empty | 3 | many(<1[:])")
        told = values(sheet, 2, {})
        self.assertEqual(told, {(0, -1): "#ring", (0, 0): "#ring", (0, 1): "#ring", (0, 2): "#ring", (1, -1): None,
                                (1, 0): "#ring",
                                (1, 1): "#ring", (1, 2): "#ring", (2, -1): None, (2, 0): 3, (2, 1): 3, (2, 2): "#ring"})
        self.assertEqual([value_at(sheet, 2, {}, address) for address in ((0, 0), (1, 2), (2, 2), (2, 0))], ["#ring"] * 3 + [3])
        # A name of no column means no cell: it closes no ring.
        sheet = sheet_of("?  head | case(1 = 1, 5, ?[0]) | sum(. last 0, ?  foot)".replace("  ", " "))
        self.assertEqual(values(sheet, 1, {}), {(0, -1): "#lost", (0, 0): 5, (0, 1): "#lost"})

    def test_lost_and_far_names(self):
        sheet = sheet_of("empty | sum($7[0], 1) | >1 last 0", "4 | <2[-1] | <1 last 5", "empty | <1[-1] | <1 last 2")
        self.assertEqual(values(sheet, 2, {}), {(0, -1): None, (0, 0): "#lost", (0, 1): "#lost", (0, 2): "#lost", (1, -1): 4,
                                                (1, 0): "#lost",
                                                (1, 1): "#lost", (1, 2): None, (2, -1): None, (2, 0): 4, (2, 1): "#lost",
                                                (2, 2): 4})
        self.assertEqual(values(sheet, 0, {}), {(0, -1): None, (0, 0): 4, (1, -1): 4, (1, 0): None, (2, -1): None, (2, 0): None})

    def test_contents_with_other_keys(self):
        sheet = sheet_of("empty | input | sum(. last 0, 1)", "input | 5 | . head")
        contents = {(0, 1): 8, (0, 2): 99, (1, 0): 7, (1, -1): 3, (0, 0): 2, (9, 9): 1, (0, -1): 4, (0, 7): 4}
        self.assertEqual(values(sheet, 2, contents), {(0, -1): None, (0, 0): 2, (0, 1): 8, (0, 2): 9, (1, -1): 3, (1, 0): 5,
                                                      (1, 1): 5, (1, 2): 3})
        self.assertEqual(values(sheet, 1, contents)[(0, 1)], 3)
        self.assertEqual(len(contents), 8)

    def test_no_columns(self):
        self.assertEqual([values(Sheet([]), 3, {}), order_for(Sheet([]), 3), on_rings(Sheet([]), 3)], [{}, [], []])
        self.assertIs(is_order(Sheet([]), 3, []), True)
        self.assertIs(is_ring(Sheet([]), 3, []), False)

    def test_is_order(self):
        sheet = sheet_of("input | .[-1] | empty")
        right = [(0, -1), (0, 0), (0, 1), (0, 2)]
        self.assertIs(is_order(sheet, 2, right), True)
        self.assertIs(is_order(sheet, 2, right[3:] + right[:3]), True)
        for thing in (right[::-1], right[:3], right + right[:1], right[:3] + right[:1], tuple(right), [right],
                      right[:3] + [(0, 3)],
                      right[:3] + [(1, 0)], [(0, -1), (0, 1), (0, 0), (0, 2)], [(False, -1)] + right[1:], [[0, -1]] + right[1:],
                      right[:1] + [(0, False)] + right[2:], right[:1] + [(0, 0, 0)] + right[2:], dict.fromkeys(right), None):
            self.assertIs(is_order(sheet, 2, thing), False, thing)
        self.assertIs(is_order(sheet_of(".  head | empty | empty".replace("  ", " ")), 0, [(0, -1), (0, 0)]), False)
        for thing in some_values() + [nested(30)]:
            self.assertIs(is_order(sheet, 2, thing), False, thing)

    def test_is_ring(self):
        sheet = sheet_of("$0 head | >1[1] | . foot", "empty | <1[-1] | empty")
        for thing in ([(0, -1)], [(0, 0), (1, 1)], [(1, 2), (0, 1)], [(0, 3)]):
            self.assertIs(is_ring(sheet, 3, thing), True, thing)
        for thing in ([(0, 2)], [(1, 0)], [(1, 1)], [(0, 0), (1, 1), (0, 0), (1, 1)], [(0, 0), (1, 2)], [], [(0, -1), (0, -1)],
                      ((0, -1),), [(0, 4)],
                      [(0, True), (1, 2)], [(0, 1), (True, 2)], [[0, -1]], None, [(0, 0)], [(0, 0), (1, 1), (0, 3)], [(0, -2)]):
            self.assertIs(is_ring(sheet, 3, thing), False, thing)
        for thing in some_values() + [nested(30)]:
            self.assertIs(is_ring(sheet, 3, thing), False, thing)

    def test_the_ring_of_order_for(self):
        sheet = sheet_of("empty | >1[0] | empty", "empty | >1[0] | empty", "empty | sum(<1[0], 1) | empty",
                         "empty | <3[0] | <3 last 0")
        with self.assertRaises(Ring) as caught:
            order_for(sheet, 1)
        self.assertIn(caught.exception.ring, [[(1, 0), (2, 0)], [(2, 0), (1, 0)]])
        self.assertEqual(order_for(Sheet([(NONE, NONE, NONE)]), 0), [(0, -1), (0, 0)])


if __name__ == "__main__":
    unittest.main()
