"""[54] rings, and [5] one way or a ring."""

import unittest

from longsheet.graph import Web, web_of
from longsheet.parts import parts, way
from longsheet.rings import against, first_ring, is_against, least_ring, ring_at, ringed
from longsheet.sheets import Sheet
from longsheet.slopes import is_slope, slope
from longsheet.walks import is_loop, is_web_ring, sum_of
from tests import reckoner
from tests.things import NONE, Draw, cells_of, nested, plain_ringed, plain_shortest, some_values

# A loop of sum 35 and one of sum -4 beside it: a ring has to go far down ahead of going up again.
LONG = Web(8, [(at, at + 1, 5, 5) for at in range(7)] + [(7, 0, 5, 5), (1, 1, -4, -4)])


class Against(unittest.TestCase):
    def test_no_ring(self):
        web = Web(3, [(0, 0, -1, -1), (1, 1, 2, None), (2, 0, 0, 0)])
        self.assertEqual([against(web, part) for part in parts(web)], [None, None, None])

    def test_zero_sums(self):
        web = Web(2, [(0, 1, 3, 3), (1, 0, -3, -3), (1, 1, -1, -1)])
        one, other = against(web, [0, 1])
        self.assertEqual(sum_of(one), 0)
        self.assertLessEqual(sum_of(other), 0)
        self.assertIs(is_against(web, [0, 1], (one, other)), True)
        self.assertIsNot(one, other)

    def test_ends_that_are_none(self):
        for ends in ((None, None), (None, 0), (0, None), (None, 5), (-5, None), (5, None), (None, -5)):
            web = Web(2, [(0, 1) + ends, (1, 0, 1, 1), (0, 0, -1, 0)])
            told = against(web, [0, 1])
            self.assertIs(is_against(web, [0, 1], told), True, ends)

    def test_ends_that_cross(self):
        for edges in ([(0, 0, -5, 5), (0, 0, -1, -1)], [(0, 0, -5, 5), (0, 0, 1, 1)], [(0, 0, None, 2), (0, 0, 1, 1)],
                      [(0, 0, -2, None), (0, 0, -1, -1)], [(0, 0, None, -1), (0, 0, -5, 3), (0, 0, -4, -4)]):
            web = Web(1, edges)
            self.assertIs(is_against(web, [0], against(web, [0])), True, edges)
            self.assertIs(is_against(~web, [0], against(~web, [0])), True, edges)

    def test_ways_beside_the_greatest(self):
        # From 2 to 3 and back by 4 and 5 the sum is 0; by 0 or 1 in their place it is less.
        columns = list(range(6))
        for first, second in ((-1, 0), (0, -1), (-2, 1), (1, -2)):
            ways = [(2, 0, first), (2, 4, 0), (0, 3, second), (4, 3, 0), (3, 1, first), (3, 5, 0), (1, 2, second), (5, 2, 0)]
            for order in ([0, 1, 2, 3, 4, 5], [5, 4, 3, 2, 1, 0], [4, 5, 2, 3, 0, 1], [2, 5, 3, 1, 4, 0]):
                web = Web(6, [(order[here], order[there], end, end) for here, there, end in ways])
                self.assertIs(is_against(web, columns, against(web, columns)), True)
                self.assertIs(is_against(~web, columns, against(~web, columns)), True)

    def test_far_apart(self):
        edges = [(at, at + 1, 5, 5) for at in range(7)] + [(at + 1, at, 5, 5) for at in range(7)]
        for web in (Web(8, edges + [(7, 7, -1, -1)]), ~Web(8, edges + [(7, 7, -1, -1)]), LONG, ~LONG):
            told = against(web, list(range(8)))
            self.assertIs(is_against(web, list(range(8)), told), True)

    def test_is_against(self):
        web = Web(3, [(0, 1, 1, 1), (1, 0, -2, -2), (1, 1, 2, 2), (2, 2, 0, 0), (2, 0, 0, 0)])
        up, down, own = ((1, 0, -2, -2), -2), ((0, 1, 1, 1), 1), ((1, 1, 2, 2), 2)
        zero = [((2, 2, 0, 0), 0)]
        for thing in (([own], [up, down]), ([own, own], [up, down, up, down]), ([own, up, down], [up, down]),
                      ([down, own, up], [down, up])):
            self.assertIs(is_against(web, [0, 1], thing), True, thing)
        self.assertIs(is_against(web, [2], (zero, zero)), True)
        for thing in ([[own], [up, down]], ([up, down], [own]), ([own], [own]), ([up, down], [up, down]), ([own], [down, up]),
                      ([own], []), ([], [up, down]), ([own],), ([own], [up, down], []), ([own], (up, down)), ((own,), [up, down]),
                      ([own], [up]), (zero, zero), ([own], zero), (None, None), ([own], None), (own, [up, down])):
            self.assertIs(is_against(web, [0, 1], thing), False, thing)
        self.assertIs(is_against(web, [2], ([own], [up, down])), False)

    def test_any_value(self):
        web = Web(2, [(0, 0, 0, 0), (0, 1, 0, 0), (1, 0, 0, 0)])
        for thing in some_values() + [nested(30)]:
            self.assertIs(is_against(web, [0, 1], thing), False, thing)

    def test_told_lists_are_new(self):
        web = Web(1, [(0, 0, 0, 0)])
        one, other = against(web, [0])
        one.clear()
        other.append(None)
        self.assertIs(is_against(web, [0], against(web, [0])), True)

    def test_drawn(self):
        draw = Draw(540)
        rings = 0
        for _ in range(300):
            web = draw.web()
            for part in parts(web):
                told = against(web, part)
                self.assertEqual(told is None, way(web, part) != "ring")
                if told is not None:
                    rings += 1
                    one, other = told
                    self.assertTrue(is_loop(web, one) and is_loop(web, other))
                    self.assertEqual(one[0][0][0], other[0][0][0])
                    self.assertTrue(one[0][0][0] in part and sum_of(other) <= 0 <= sum_of(one))
                    self.assertIs(is_against(web, part, told), True)
        self.assertGreater(rings, 50)


class Rings(unittest.TestCase):
    def test_without_rings(self):
        for web in (Web(0, []), Web(8, []), Web(1, [(0, 0, -1, -1)]), Web(2, [(0, 1, None, None), (1, 1, 1, None)])):
            self.assertIsNone(least_ring(web))
            for rows in (0, 1, 30):
                self.assertIsNone(ring_at(web, rows))
                self.assertEqual(ringed(web, rows), [])

    def test_least_rings(self):
        for web, rows in ((Web(1, [(0, 0, 0, 0)]), 1), (Web(1, [(0, 0, None, None)]), 1), (Web(1, [(0, 0, -1, -1), (0, 0, 1, 1)]), 2),
                          (Web(1, [(0, 0, -2, -2), (0, 0, 3, 3)]), 5), (Web(1, [(0, 0, -4, -4), (0, 0, 5, 5)]), 9),
                          (Web(1, [(0, 0, None, -3), (0, 0, 5, 5)]), 6), (Web(1, [(0, 0, 3, None), (0, 0, -5, -4)]), 5),
                          (Web(2, [(0, 1, 5, 5), (1, 0, -5, -5)]), 6), (Web(2, [(0, 1, None, 0), (1, 0, 2, 2)]), 3),
                          (Web(2, [(0, 0, -1, -1), (1, 1, 0, 0)]), 1)):
            self.assertEqual(least_ring(web), rows, web.edges())
            self.assertEqual(least_ring(~web), rows, web.edges())

    def test_a_first_ring_at_many_rows(self):
        for web in (LONG, ~LONG):
            length = least_ring(web)
            self.assertGreater(length, 30)
            self.assertLessEqual(length, 201)
            ring = ring_at(web, length)
            self.assertIs(is_web_ring(web, length, ring), True)
            self.assertIsNone(ring_at(web, length - 1))
            self.assertNotEqual(ringed(web, length), [])
            self.assertEqual(ringed(web, length - 1), [])
            self.assertIs(is_web_ring(web, length + 1, ring_at(web, length + 1)), True)

    def test_rings_of_few_cells(self):
        web = Web(2, [(0, 0, -2, -2), (0, 0, 1, 1), (0, 1, 0, 0), (1, 0, 5, 5), (1, 0, -1, -1)])
        self.assertEqual([len(ring_at(web, rows)) for rows in (3, 6)], [3, 3])
        self.assertEqual(ring_at(web, 0), None)
        both = Web(2, [(0, 1, 1, 1), (1, 0, -1, -1), (0, 0, -1, -1), (0, 0, 2, 2)])
        self.assertEqual([len(ring_at(both, rows)) for rows in (2, 3, 9)], [2, 2, 2])
        told = ring_at(both, 3)
        told.clear()
        self.assertEqual(len(ring_at(both, 3)), 2)

    def test_ringed(self):
        web = Web(3, [(0, 0, 1, 1), (0, 0, -1, -1), (1, 0, -2, -2), (2, 1, 0, None)])
        self.assertEqual(ringed(web, 1), [])
        self.assertEqual(ringed(web, 2), [(0, 0), (0, 1)])
        self.assertEqual(ringed(web, 3), [(0, 0), (0, 1), (0, 2), (1, 2), (2, 0), (2, 1), (2, 2)])

    def test_drawn(self):
        draw = Draw(541)
        told = {}
        for _ in range(250):
            web = draw.web(4)
            length = least_ring(web)
            told[length] = told.get(length, 0) + 1
            for rows in (0, 1, 2, 3, 5, 7):
                left = plain_ringed(web, rows)
                self.assertEqual(ringed(web, rows), left)
                self.assertEqual(len(left) > 0, length is not None and rows >= length)
            rows = draw.number(1, 4)
            ring = ring_at(web, rows)
            ways = [plain_shortest(web, rows, cell, cell) for cell in cells_of(web, rows)]
            ways = [many - 1 for many in ways if many is not None]
            self.assertEqual(None if ring is None else len(ring), min(ways, default=None))
            if ring is not None:
                self.assertIs(is_web_ring(web, rows, ring), True)
        self.assertGreater(len(told), 5)

    def test_one_way_or_a_ring(self):
        """[5]: slopes of all parts, and no ring at any length; or a least length, and a ring at each greater one."""
        draw = Draw(542)
        for _ in range(200):
            web = draw.web()
            length = least_ring(web)
            slopes = [slope(web, part) for part in parts(web)]
            if length is None:
                for part, told in zip(parts(web), slopes):
                    self.assertIs(is_slope(web, part, told), True)
                self.assertIsNone(ring_at(web, 30))
            else:
                self.assertIn(None, slopes)
                self.assertIsNone(ring_at(web, length - 1))
                for rows in (length, length + 1, length + 7):
                    self.assertIs(is_web_ring(web, rows, ring_at(web, rows)), True)


class FirstRing(unittest.TestCase):
    def check(self, columns, rows):
        sheet = Sheet(columns)
        self.assertEqual(first_ring(sheet), rows)
        if rows is not None:
            self.assertNotEqual(reckoner.on_rings(sheet, rows), [])
            if rows > 0:
                self.assertEqual(reckoner.on_rings(sheet, rows - 1), [])

    def test_heads_and_feet(self):
        head, foot = ("name", ("by", 0), ("head",)), ("name", ("by", 0), ("foot",))
        next_head, first_foot = ("name", ("by", 1), ("head",)), ("name", ("at", 0), ("foot",))
        self.check([(head, NONE, NONE)], 0)
        self.check([(NONE, NONE, foot)], 0)
        self.check([(NONE, head, head)], None)
        self.check([(next_head, NONE, NONE), (NONE, NONE, NONE)], None)
        self.check([(next_head, NONE, NONE), (("name", ("at", 0), ("head",)), NONE, NONE)], 0)
        self.check([(NONE, NONE, ("name", ("by", 1), ("foot",))), (NONE, NONE, first_foot)], 0)
        self.check([(NONE, NONE, NONE), (NONE, NONE, first_foot), (NONE, NONE, ("name", ("by", -1), ("foot",)))], None)
        self.check([(NONE, NONE, NONE), (head, ("name", ("by", 0), ("by", 0)), NONE)], 0)
        self.check([(next_head, NONE, NONE)], None)
        self.check([(("name", ("lost",), ("head",)), NONE, ("name", ("lost",), ("foot",)))], None)
        self.check([(("times", 0, ("sum", (("number", 1), head))), NONE, NONE)], 0)

    def test_feet_that_read_heads_and_rows(self):
        foot = ("sum", (("name", ("by", 0), ("last", 0)), ("name", ("by", 0), ("head",)), ("total", ("rows", ("by", 0), None, None))))
        self.check([(("input",), ("name", ("by", 0), ("by", -1)), foot)], None)

    def test_bodies(self):
        self.check([], None)
        self.check([(NONE, ("name", ("by", 0), ("by", 0)), NONE)], 1)
        self.check([(NONE, ("total", ("rows", ("by", 0), None, 0)), NONE)], 1)
        self.check([(NONE, ("sum", (("name", ("by", 0), ("by", -2)), ("name", ("by", 0), ("by", 1)))), NONE)], 3)
        self.check([(NONE, ("sum", (("name", ("by", 0), ("by", -1)), ("name", ("by", 0), ("head",)))), NONE)], None)
        self.check([(NONE, ("name", ("by", 1), ("by", 3)), NONE), (NONE, ("name", ("by", -1), ("by", -3)), NONE)], 4)

    def test_drawn(self):
        draw = Draw(543)
        told = {}
        for _ in range(150):
            sheet = draw.sheet(3)
            length = first_ring(sheet)
            told[length] = told.get(length, 0) + 1
            rings = [len(reckoner.on_rings(sheet, rows)) > 0 for rows in range(6)]
            self.assertEqual(rings, [length is not None and rows >= length for rows in range(6)])
            body = least_ring(web_of(sheet))
            self.assertIn(length, (0, body))
        self.assertTrue({None, 0, 1} <= set(told))


if __name__ == "__main__":
    unittest.main()
