"""[70] reach: on which body cells a cell hangs at told rows, and bars between cells."""

import unittest

from longsheet.graph import Web
from longsheet.reach import bar_between, depends, hanging_from, hanging_on, hangs, is_bar_between
from longsheet.walks import walk_between
from tests.things import Draw, cells_of, nested, plain_next, some_values


def plain_hanging(web, rows, cell):
    """The cells on which a cell hangs, going from cell to cell."""
    found, waiting = set(), [cell]
    while waiting:
        for other in plain_next(web, rows, waiting.pop()):
            if other not in found:
                found.add(other)
                waiting.append(other)
    return sorted(found)


class Hanging(unittest.TestCase):
    def check(self, web, rows):
        cells = cells_of(web, rows)
        hung = {cell: plain_hanging(web, rows, cell) for cell in cells}
        for cell in cells:
            self.assertEqual(hanging_on(web, rows, cell), hung[cell], (web.edges(), rows, cell))
            self.assertEqual(hanging_from(web, rows, cell), [other for other in cells if cell in hung[other]])
            for other in cells:
                self.assertIs(hangs(web, rows, cell, other), other in hung[cell])
        for here in range(len(web)):
            for there in range(len(web)):
                told = {row - start[1] for start in cells if start[0] == here for column, row in hung[start] if column == there}
                self.assertEqual(depends(web, rows, here, there), sorted(told))

    def test_drawn(self):
        draw = Draw(70)
        for _ in range(60):
            self.check(draw.web(3), draw.number(0, 4))

    def test_none_and_one_row(self):
        web = Web(2, [(0, 0, -1, -1), (0, 1, 0, 0), (1, 1, 0, None)])
        self.assertEqual([depends(web, 0, 0, 1), depends(web, 1, 0, 1), depends(web, 1, 0, 0)], [[], [0], []])
        self.check(web, 1)
        self.assertEqual(hanging_on(web, 1, (0, 0)), [(1, 0)])

    def test_sixty_rows(self):
        web = Web(2, [(0, 0, -7 + 2, -5), (0, 1, 2, 2), (1, 1, 3, 3)])
        self.assertEqual(hanging_on(web, 60, (1, 50)), [(1, 53), (1, 56), (1, 59)])
        self.assertEqual(hanging_from(web, 60, (0, 49)), [(0, 54), (0, 59)])
        self.assertEqual(plain_hanging(web, 60, (0, 59)), hanging_on(web, 60, (0, 59)))
        self.assertEqual(depends(web, 60, 0, 0), list(range(-55, 0, 5)))
        self.assertEqual(depends(web, 60, 1, 1), list(range(3, 60, 3)))
        self.assertEqual(depends(web, 60, 1, 0), [])

    def test_a_cell_on_a_ring_hangs_on_itself(self):
        web = Web(2, [(0, 1, 1, 1), (1, 0, -1, -1)])
        self.assertEqual([hangs(web, 2, (0, 0), (0, 0)), hangs(web, 2, (1, 1), (1, 1)), hangs(web, 2, (0, 1), (0, 1))],
                         [True, True, False])
        self.assertEqual(hanging_on(web, 2, (0, 0)), [(0, 0), (1, 1)])
        self.assertEqual(hanging_from(web, 2, (0, 0)), [(0, 0), (1, 1)])
        self.assertEqual(depends(web, 1, 0, 0), [])
        self.assertEqual(depends(web, 2, 0, 0), [0])
        alone = Web(1, [(0, 0, 0, 0)])
        self.assertEqual(hanging_on(alone, 1, (0, 0)), [(0, 0)])

    def test_two_numbers_of_rows_by_turns(self):
        draw = Draw(71)
        for _ in range(20):
            web = draw.web(3)
            if len(web):
                edges = web.edges()
                draw.random.shuffle(edges)
                other = Web(len(web), edges + edges[:1])
                few, more = [hanging_on(web, rows, (0, 2)) for rows in (3, 9)]
                self.assertEqual([hanging_on(one, rows, (0, 2)) for rows in (9, 3) for one in (other, web)],
                                 [more, more, few, few])
                self.assertEqual(few, plain_hanging(web, 3, (0, 2)))

    def test_by_walks(self):
        draw = Draw(72)
        for _ in range(40):
            web, rows = draw.web(4), 5
            for cell in cells_of(web, rows)[:6]:
                for other in cells_of(web, rows):
                    if other != cell:
                        self.assertIs(hangs(web, rows, cell, other), walk_between(web, rows, cell, other) is not None)


class Bars(unittest.TestCase):
    WEB = Web(3, [(0, 0, -1, -1), (0, 1, 0, 1), (2, 0, None, 0)])

    def test_told(self):
        web = self.WEB
        self.assertEqual(bar_between(web, 3, (0, 0), (0, 1)), [(1, 0), (1, 1)])
        self.assertEqual(bar_between(web, 3, (1, 0), (1, 0)), [])
        self.assertIsNone(bar_between(web, 3, (0, 2), (1, 0)))
        self.assertEqual(bar_between(web, 1, (0, 0), (0, 0)), [(1, 0)])
        self.assertIs(is_bar_between(web, 3, (1, 0), (1, 0), []), True)
        self.assertIs(is_bar_between(web, 3, (0, 0), (2, 0), []), False)

    def test_changed_bars(self):
        web, cell, other = self.WEB, (0, 1), (0, 2)
        told = bar_between(web, 3, cell, other)
        self.assertEqual(told, [(0, 0), (1, 0), (1, 1), (1, 2)])
        check = lambda thing: is_bar_between(web, 3, cell, other, thing)
        self.assertIs(check(told), True)
        for more in ([(0, 1)], [(0, 1), (2, 1)], [(2, 0)]):
            self.assertIs(check(sorted(told + more)), True, more)
        # (2, 2) hangs on the other cell, (0, 2); a bar with it would have to have that one.
        for more in ([(2, 2)], [(0, 2)], [(0, 2), (2, 2)], [(0, 0)], [(1, 3)], [(3, 0)], [(0, -1)]):
            self.assertIs(check(sorted(told + more)), False, more)
        for at in range(4):
            self.assertIs(check(told[:at] + told[at + 1:]), False)
            self.assertIs(check(told[:at] + [told[at]] + told[at:]), False)
        for thing in (told[::-1], tuple(told), [list(one) for one in told], told[1:] + told[:1], dict.fromkeys(told),
                      [(False, False), (1, 0), (1, 1), (1, 2)], [(0, 0), (1, 0), (1, True), (1, 2)], None):
            self.assertIs(check(thing), False, thing)

    def test_drawn(self):
        draw = Draw(73)
        for _ in range(80):
            web, rows = draw.web(3), draw.number(1, 4)
            cells = cells_of(web, rows)
            if not cells:
                continue
            cell, other = draw.one(cells), draw.one(cells)
            hung = plain_hanging(web, rows, cell)
            told = bar_between(web, rows, cell, other)
            self.assertEqual(told, None if other in hung else hung)
            for _ in range(6):
                thing = sorted(draw.random.sample(cells, draw.number(0, len(cells))) if draw.number(0,
                                                                                                    1) else set(hung + [draw.one(cells)]))
                inside = set(thing)
                right = other not in inside and set(plain_next(web, rows, cell)) <= inside
                right = right and all(set(plain_next(web, rows, one)) <= inside for one in thing)
                self.assertIs(is_bar_between(web, rows, cell, other, thing), right)

    def test_any_value(self):
        web = Web(1, [(0, 0, 0, 0)])
        for thing in some_values() + [nested(30)]:
            self.assertIs(is_bar_between(web, 2, (0, 0), (0, 1), thing), thing == [(0, 0)], thing)
            self.assertIs(is_bar_between(web, 2, (0, 0), (0, 0), thing), False, thing)


if __name__ == "__main__":
    unittest.main()
