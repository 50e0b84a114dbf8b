"""[110] levels and rounds, and [10] depth."""

import unittest

from longsheet.errors import NoPlan
from longsheet.graph import Web, next_on
from longsheet.levels import busiest, far_level, level, level_walk, levels, round_cells, rounds
from longsheet.rings import least_ring
from longsheet.walks import is_walk
from tests.things import Draw, cells_of, plain_next

FAR = 10 ** 30


def plain_levels(web, rows):
    """The levels of all cells, raised until they stand."""
    found = {cell: 0 for cell in cells_of(web, rows)}
    following = {cell: plain_next(web, rows, cell) for cell in found}
    while True:
        raised = {cell: max([found[other] + 1 for other in following[cell]], default=0) for cell in found}
        if raised == found:
            return found
        found = raised


def upward_web(draw, most=4, spread=3):
    """A Web without rings that looks to its own row and to those above alone."""
    many = draw.number(1, most)
    order = list(range(many))
    draw.random.shuffle(order)
    edges = []
    for _ in range(draw.number(0, draw.one([2, 5, 10]))):
        here, there = draw.number(0, many - 1), draw.number(0, many - 1)
        high = draw.number(-spread, 0 if order[there] < order[here] else -1)
        edges.append((here, there, draw.one([high, high, draw.number(-spread, high)]), high))
    return Web(many, edges)


class Levels(unittest.TestCase):
    def check(self, web, rows):
        told = plain_levels(web, rows)
        self.assertEqual(levels(web, rows), told, (web.edges(), rows))
        self.assertEqual(list(levels(web, rows)), sorted(told))
        for cell in list(told)[:8]:
            self.assertEqual(level(web, rows, cell), told[cell])
            walk = level_walk(web, rows, cell)
            self.assertIs(is_walk(web, rows, walk), True)
            self.assertEqual([walk[0], len(walk)], [cell, told[cell] + 1])
        many = max(told.values(), default=-1) + 1
        self.assertEqual(rounds(web, rows), many)
        found = [round_cells(web, rows, number) for number in range(many)]
        self.assertEqual(found, [[cell for cell in told if told[cell] == number] for number in range(many)])
        self.assertEqual(busiest(web, rows), max([len(cells) for cells in found], default=0))
        # Each cell is reckoned as early as can be: in the first round behind all on which it hangs next.
        done = {}
        for number, cells in enumerate(found):
            for cell in cells_of(web, rows):
                if cell not in done:
                    self.assertEqual(all(other in done for other in plain_next(web, rows, cell)), cell in cells)
            done.update(dict.fromkeys(cells))
        self.assertEqual(len(done), len(told))

    def test_drawn(self):
        draw = Draw(1100)
        checked = 0
        while checked < 80:
            web = draw.web(4)
            if least_ring(web) is None:
                self.check(web, draw.one([0, 1, 2, 4, 6]))
                checked += 1

    def test_told(self):
        web = Web(2, [(0, 0, -2, -2), (1, 0, 0, 0), (1, 1, -3, -3)])
        self.assertEqual([level(web, 30, (0, 29)), level(web, 30, (1, 29)), rounds(web, 30), busiest(web, 30)], [14, 15, 16, 4])
        self.assertEqual([rounds(web, 0), busiest(web, 0), levels(web, 0), rounds(web, 1), busiest(web, 1)], [0, 0, {}, 2, 1])
        self.assertEqual([rounds(Web(0, []), 5), busiest(Web(0, []), 5), levels(Web(0, []), 5)], [0, 0, {}])
        self.assertEqual([rounds(Web(3, []), 5), busiest(Web(3, []), 5)], [1, 15])
        self.assertEqual(round_cells(web, 2, 1), [(1, 0), (1, 1)])
        web = Web(2, [(0, 0, 1, None), (1, 0, None, None)])
        self.assertEqual([level(web, 30, (0, 0)), level(web, 30, (1, 9)), level_walk(web, 3, (1, 2))],
                         [29, 30, [(1, 2), (0, 0), (0, 1), (0, 2)]])

    def test_thirty_rows(self):
        draw = Draw(1101)
        for _ in range(6):
            web = upward_web(draw, 3)
            for one in (web, ~web):
                told = plain_levels(one, 30)
                self.assertEqual(levels(one, 30), told)
                self.assertEqual(rounds(one, 30), max(told.values()) + 1)
                walk = level_walk(one, 30, (0, 15))
                self.assertEqual([is_walk(one, 30, walk), len(walk)], [True, told[(0, 15)] + 1])

    def test_depth(self):
        # As many rounds as the greatest level tells, and one more; in fewer, its walk is not reckoned.
        draw = Draw(1102)
        for _ in range(40):
            web, rows = upward_web(draw), draw.number(1, 8)
            told = levels(web, rows)
            self.assertEqual(rounds(web, rows), max(told.values()) + 1)
            for cell in told:
                for other in next_on(web, rows, cell):
                    self.assertLess(told[other], told[cell])

    def test_no_plan(self):
        for web, length in ((Web(1, [(0, 0, 0, 0)]), 1), (Web(2, [(0, 1, 2, 2), (1, 0, -2, -2)]), 3),
                            (Web(1, [(0, 0, None, None)]), 1),
                            (Web(1, [(0, 0, -3, -3), (0, 0, 2, 2)]), 5)):
            self.assertEqual(least_ring(web), length)
            for rows in (0, 1, 30):
                for asked in (lambda: level(web, rows, (0, 0)), lambda: level_walk(web, rows, (0, 0)), lambda: levels(web, rows),
                              lambda: rounds(web, rows),
                              lambda: round_cells(web, rows, 0), lambda: busiest(web, rows), lambda: far_level(web, 0, rows)):
                    with self.assertRaises(NoPlan) as caught:
                        asked()
                    self.assertEqual(caught.exception.length, length)


class Far(unittest.TestCase):
    def test_told(self):
        web = Web(2, [(0, 0, -2, -2), (1, 0, 0, 0), (1, 1, -3, -3)])
        self.assertEqual([far_level(web, 0, FAR), far_level(web, 0, FAR + 1), far_level(web, 1, FAR)],
                         [FAR // 2, FAR // 2, FAR // 2 + 1])
        self.assertEqual([far_level(Web(1, []), 0, FAR), far_level(Web(1, [(0, 0, -3, -3)]), 0, 2),
                          far_level(Web(1, [(0, 0, -3, -3)]), 0, 3)], [0, 0, 1])
        self.assertEqual(far_level(Web(1, [(0, 0, -3, -1)]), 0, FAR), FAR)
        chain = Web(4, [(at, at - 1, 0, 0) for at in (1, 2, 3)] + [(0, 3, -1, -1)])
        self.assertEqual([far_level(chain, column, FAR) for column in range(4)], [4 * FAR + column for column in range(4)])
        # Three columns of which each comes three rows up; by one edge one row up less is lost.
        web = Web(3, [(0, 1, -3, -3), (1, 2, -3, -3), (2, 0, -3, -2), (2, 2, -3, -3)])
        self.assertEqual(far_level(web, 0, 800), (3 * 100) + 0)

    def test_near(self):
        draw = Draw(1103)
        for _ in range(60):
            web = upward_web(draw)
            told = levels(web, 30)
            for column in range(len(web)):
                for row in (0, 1, 2, 3, 4, 7, 15, 29):
                    self.assertEqual(far_level(web, column, row), told[(column, row)], (web.edges(), column, row))

    def test_far_by_the_formula(self):
        draw = Draw(1104)
        for _ in range(30):
            web = upward_web(draw)
            row = draw.one([FAR, FAR - 1, draw.number(5, FAR)])
            for column in range(len(web)):
                following = [far_level(web, there, row + distance) for here, there, low, high in web.edges() if here == column
                             for distance in range(low, high + 1)]
                self.assertEqual(far_level(web, column, row), max([one + 1 for one in following], default=0))


if __name__ == "__main__":
    unittest.main()
