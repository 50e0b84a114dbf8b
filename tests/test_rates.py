"""[111] rates of parts, their papers, and longest walks between two cells."""

import unittest
from fractions import Fraction
from math import gcd

from longsheet.graph import Web
from longsheet.heights import edges_within
from longsheet.parts import parts, way
from longsheet.rates import is_rate_paper, longest_between, rate, rate_paper
from longsheet.walks import is_loop, sum_of
from tests.things import Draw, cells_of, nested, plain_next, some_values


def plain_rate(web, part):
    """The greatest rate of all loops that come to no column twice, each with the distances of least sum."""
    best = None
    goes = way(web, part)

    def follow(start, column, seen, steps, far):
        nonlocal best
        for here, there, low, high in edges_within(web, part):
            if here == column:
                led = far - high if goes == "up" else far + low
                if there == start:
                    best = max(best or Fraction(0), Fraction(steps + 1, led))
                elif there not in seen:
                    follow(start, there, seen | {there}, steps + 1, led)

    for column in part:
        follow(column, column, {column}, 0, 0)
    return best


def plain_longest(web, part, rows, start, goal):
    """The length of the longest walk between two cells, of all walks; None if there is none."""
    inner = Web(len(web), edges_within(web, part))
    best, reached, many = None, {start}, 0
    while reached and many <= len(part) * rows:
        if goal in reached:
            best = many
        reached = {other for cell in reached for other in plain_next(inner, rows, cell)}
        many += 1
    return best


class Rates(unittest.TestCase):
    def test_told(self):
        web = Web(5, [(0, 0, -2, -2), (1, 1, -3, -3), (1, 2, 2, 2), (2, 1, -5, -4), (3, 3, 1, None), (3, 4, 0, 0), (4, 3, 3, 5)])
        self.assertEqual([rate(web, part) for part in parts(web)], [(1, 2), (1, 1), (1, 1)])
        self.assertEqual(rate(Web(2, [(0, 0, -3, -3), (0, 1, 0, 0), (1, 0, -5, -4)]), [0, 1]), (1, 2))
        self.assertEqual(rate(Web(3, [(0, 1, -1, -1), (1, 2, -1, -1), (2, 0, -5, -5)]), [0, 1, 2]), (3, 7))
        self.assertEqual(rate(Web(1, [(0, 0, None, -4)]), [0]), (1, 4))
        self.assertEqual([rate(Web(1, []), [0]), rate(Web(1, [(0, 0, 0, 0)]), [0]), rate(Web(1, [(0, 0, -1, 1)]), [0])],
                         [(0, 1), None, None])
        self.assertEqual(rate(Web(8, [(at, (at + 1) % 8, 5, 5) for at in range(8)]), list(range(8))), (1, 5))

    def test_drawn(self):
        draw = Draw(1110)
        ways = {"up": 0, "down": 0, "alone": 0, "ring": 0}
        while min(ways.values()) < 30:
            web = draw.web(6)
            for part in parts(web):
                goes = way(web, part)
                ways[goes] += 1
                told = rate(web, part)
                if goes == "ring":
                    self.assertIsNone(told)
                elif goes == "alone":
                    self.assertEqual(told, (0, 1))
                else:
                    best = plain_rate(web, part)
                    self.assertEqual(told, (best.numerator, best.denominator), web.edges())
                    self.assertEqual(rate(~web, part), told)
                    self.check_paper(web, part, told)

    def check_paper(self, web, part, told):
        loop, heights = rate_paper(web, part)
        self.assertIs(is_rate_paper(web, part, (loop, heights)), True)
        self.assertIs(is_loop(web, loop), True)
        many, far = len(loop), abs(sum_of(loop))
        self.assertEqual((many // gcd(many, far), far // gcd(many, far)), told)
        self.assertEqual(list(heights), part)
        over, under = told
        leads = -1 if way(web, part) == "up" else 1
        for here, there, low, high in edges_within(web, part):
            for d in range(-12 if low is None else low, (12 if high is None else high) + 1):
                least = under - over * abs(d) if d * leads > 0 else under + over * abs(d)
                self.assertGreaterEqual(heights[here], heights[there] + least)

    def test_is_rate_paper(self):
        web = Web(3, [(0, 0, -3, -3), (0, 1, 1, 1), (1, 0, -4, -3), (2, 2, 2, None), (2, 0, 0, 0)])
        # Two steps come two rows up: one to the other, and back.
        two = [((0, 1, 1, 1), 1), ((1, 0, -4, -3), -3)]
        self.assertEqual([rate(web, [0, 1]), rate(web, [2])], [(1, 1), (1, 2)])
        for thing in ((two, {0: 2, 1: 0}), (two[::-1], {0: -5, 1: -7}), (two * 3, {0: 2, 1: 0})):
            self.assertIs(is_rate_paper(web, [0, 1], thing), True, thing)
            self.assertIs(is_rate_paper(web, [2], thing), False)
        alone, more = [((0, 0, -3, -3), -3)], [((0, 1, 1, 1), 1), ((1, 0, -4, -3), -4)]
        for thing in ((two, {0: 1, 1: 0}), (two, {0: 3, 1: 0}), (two, {0: 2}), (two, {0: 2, 1: 0, 2: 0}), (two, {}),
                      (two, [2, 0]), (two, {0: 2, True: 0}),
                      (two, {0: 2, 1: False}), (two, {0: 2, 1: None}), (alone, {0: 2, 1: 0}), (more, {0: 2, 1: 0}),
                      ([], {0: 2, 1: 0}), (two[:1], {0: 2, 1: 0}),
                      (tuple(two), {0: 2, 1: 0}), [two, {0: 2, 1: 0}], (two,), (two, {0: 2, 1: 0}, 0), None):
            self.assertIs(is_rate_paper(web, [0, 1], thing), False, thing)
        own = [((2, 2, 2, None), 2)]
        self.assertEqual([is_rate_paper(web, [2], thing) for thing in ((own, {2: 0}), (own * 2, {2: 7}),
                                                                       ([((2, 2, 2, None), 3)], {2: 0}), (own, {0: 0}))],
                         [True, True, False, False])
        for thing in some_values() + [nested(30), (two, {0: 2, 1: 0})]:
            self.assertIs(is_rate_paper(web, [2], thing), False)
            self.assertIs(is_rate_paper(Web(1, []), [0], thing), False)
            self.assertIs(is_rate_paper(Web(1, [(0, 0, 0, 0)]), [0], thing), False)

    def test_papers_of_other_parts(self):
        web = Web(2, [(0, 0, -2, -2), (1, 1, -1, -1)])
        own, other = ([((0, 0, -2, -2), -2)], {0: 0}), ([((1, 1, -1, -1), -1)], {0: 0})
        self.assertEqual([is_rate_paper(web, [0], thing) for thing in (own, other)], [True, False])
        self.assertIs(is_rate_paper(web, [1], ([((1, 1, -1, -1), -1)], {1: 0})), True)

    def test_papers_of_parts_that_are_rings(self):
        for edge in ((0, 0, 0, 0), (0, 0, None, None), (0, 0, -1, 1), (0, 0, -1, None), (0, 0, None, 1), (0, 0, None, 0)):
            for distance in (-1, 0, 1):
                self.assertIs(is_rate_paper(Web(1, [edge]), [0], ([(edge, distance)], {0: 0})), False, edge)

    def test_ends_of_no_use(self):
        web = Web(1, [(0, 0, None, -2)])
        self.assertEqual(rate_paper(web, [0]), ([((0, 0, None, -2), -2)], {0: 0}))
        self.assertIs(is_rate_paper(web, [0], ([((0, 0, None, -2), -3)], {0: 0})), False)


class Longest(unittest.TestCase):
    def test_told(self):
        web = Web(3, [(0, 0, -3, -2), (0, 1, 1, 1), (1, 0, -3, -3), (2, 0, 0, 0)])
        self.assertEqual([longest_between(web, [0, 1], 9, (0, 8), (0, 2)), longest_between(web, [0, 1], 9, (0, 7), (0, 7)),
                          longest_between(web, [0, 1], 9, (0, 2), (0, 7)),
                          longest_between(web, [0, 1], 9, (0, 7), (0, 6)), longest_between(web, [0, 1], 9, (1, 8), (0, 5))],
                          [5, 0, None, None, 1])
        # At eight rows the last one has no row below: the way by the other column begins one row later.
        self.assertEqual([longest_between(web, [0, 1], rows, (0, 7), (0, 3)) for rows in (8, 9)], [3, 4])
        self.assertEqual([longest_between(web, [2], 9, (2, 4), (2, 4)), longest_between(web, [2], 9, (2, 4), (2, 3))], [0, None])

    def test_drawn(self):
        draw = Draw(1111)
        ways = {"up": 0, "down": 0}
        while min(ways.values()) < 15:
            web, rows = draw.web(4), draw.number(1, 7)
            for part in parts(web):
                goes = way(web, part)
                cells = [cell for cell in cells_of(web, rows) if cell[0] in part]
                if goes == "ring":
                    continue
                ways[goes] = ways.get(goes, 0) + 1
                for _ in range(12):
                    start, goal = draw.one(cells), draw.one(cells)
                    told = longest_between(web, part, rows, start, goal)
                    self.assertEqual(told, plain_longest(web, part, rows, start, goal), (web.edges(), rows, start, goal))
                    if told is not None and start[0] == goal[0] and goes != "alone":
                        over, under = rate(web, part)
                        self.assertLessEqual(told, over * abs(goal[1] - start[1]) // under)

    def test_parts_that_are_rings(self):
        web = Web(1, [(0, 0, 2, 2), (0, 0, -2, -2)])
        self.assertEqual([longest_between(web, [0], 2, (0, 0), (0, 0)), longest_between(web, [0], 2, (0, 0), (0, 1))], [0, None])
        # Walks by a ring have no greatest number.
        self.assertEqual([longest_between(web, [0], 4, (0, 0), (0, 2)), longest_between(web, [0], 3, (0, 1), (0, 1)),
                          longest_between(web, [0], 3, (0, 0), (0, 0))], [None, 0, None])


if __name__ == "__main__":
    unittest.main()
