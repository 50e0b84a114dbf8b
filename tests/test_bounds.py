"""Webs and sheets at the bounds, and cells that hang on one another in a chain of all cells."""

import unittest

from longsheet.anew import Live, changed, reached
from longsheet.charts import draws, read_levels, show_levels, show_rounds
from longsheet.contents import is_contents, lengthened, only_inputs
from longsheet.distances import distances, is_distance
from longsheet.edits import exchange, move_column, put_column, strike_column
from longsheet.formulas import depth, reads
from longsheet.goals import bar, form_at, solutions
from longsheet.graph import Web, next_from, next_on, web_of
from longsheet.levels import busiest, far_level, level, level_walk, levels, round_cells, rounds
from longsheet.notation import read_formula, show_formula
from longsheet.orders import first_late, is_plan, is_web_order, order_by, plan
from longsheet.parts import parts, way
from longsheet.rates import is_rate_paper, longest_between, rate, rate_paper
from longsheet.reach import bar_between, depends, hanging_from, hanging_on, hangs, is_bar_between
from longsheet.reckoning import hanging, is_order, is_ring, next_cells, on_rings, order_for, value_at, values
from longsheet.rings import against, first_ring, is_against, least_ring, ring_at, ringed
from longsheet.sheets import Sheet
from longsheet.slopes import slope
from longsheet.sweeps import are_sweeps, fewest_sweeps, needing_row, row_needs, sweeps
from longsheet.texts import show_grid, show_sheet
from longsheet.walks import is_walk, is_web_ring, walk_between
from longsheet.whatif import first_with, table, what_if
from tests.things import NONE, Draw

ALL = list(range(8))
# Each row from the left to the right, row by row: one chain of all 240 cells.
CHAIN = Web(8, [(at, at - 1, 0, 0) for at in range(1, 8)] + [(0, 7, -1, -1)])
# The columns one behind the other, the rows of each by turns from above and from below.
COLUMNS = Web(8, [(at, at, -1, -1) if at % 2 == 0 else (at, at, 1, 1) for at in ALL]
              + [(at, at - 1, None, None) for at in range(1, 8)])


class Chains(unittest.TestCase):
    def test_a_chain_of_all_cells(self):
        cells = [(column, row) for row in range(30) for column in ALL]
        for web, chain in ((CHAIN, cells), (~CHAIN, [(column, 29 - row) for column, row in cells])):
            self.assertEqual(walk_between(web, 30, chain[-1], chain[0]), chain[::-1])
            self.assertIsNone(walk_between(web, 30, chain[0], chain[-1]))
            self.assertIs(is_walk(web, 30, chain[::-1]), True)
            self.assertIs(is_web_ring(web, 30, chain[::-1]), False)
            self.assertEqual(order_by(plan(web), 30), chain)
            self.assertIs(is_web_order(web, 30, chain), True)
            self.assertEqual(first_late(web, 30, chain[::-1]), 0)
            self.assertEqual([ringed(web, 30), ring_at(web, 30), least_ring(web)], [[], None, None])
            self.assertEqual(way(web, ALL), "up" if web == CHAIN else "down")

    def test_a_chain_closed_to_a_ring(self):
        web = Web(8, CHAIN.edges() + [(0, 0, None, None)])
        self.assertEqual(least_ring(web), 1)
        for step, length in ((3, 4), (5, 6)):
            closed = Web(8, CHAIN.edges() + [(0, 7, step, step)])
            self.assertEqual(least_ring(closed), length)
            self.assertIs(is_web_ring(closed, 30, ring_at(closed, 30)), True)
            self.assertEqual(len(ringed(closed, 30)), 240)
            self.assertIs(is_against(closed, ALL, against(closed, ALL)), True)

    def test_columns_by_turns(self):
        told = plan(COLUMNS)
        self.assertEqual([step for _, step, _ in told], [1, -1] * 4)
        self.assertIs(is_web_order(COLUMNS, 30, order_by(told, 30)), True)
        self.assertEqual([fewest_sweeps(COLUMNS, first) for first in ("down", "up")], [8, 9])
        self.assertEqual(needing_row(COLUMNS, "up"), [[at] for at in ALL])
        self.assertEqual(len(next_on(COLUMNS, 30, (7, 4))), 31)
        self.assertEqual(len(next_from(COLUMNS, 30, (6, 4))), 31)

    def test_as_many_sweeps_as_can_be_needed(self):
        web = Web(8, [(at, at, -1, -1) for at in ALL] + [(at, at - 1, 0, None) for at in range(1, 8)])
        self.assertEqual([fewest_sweeps(web, first) for first in ("down", "up")], [15, 16])
        found = sweeps(web, "up")
        self.assertIs(are_sweeps(web, found), True)
        self.assertEqual([len(starts) for _, starts in found], [0, 1] * 8)
        self.assertEqual(row_needs(web, "up", needing_row(web, "up")), 16)


def chain_sheet():
    """Eight columns: each cell is one more than the one to its left, or than the last one of the row above."""
    columns = []
    for column in ALL:
        left = ("by", -1) if column else ("at", 7)
        body = ("sum", (("name", left, ("by", 0 if column else -1)), ("number", 1)))
        head = ("sum", (("name", left, ("head",)), ("number", 1))) if column else ("input",)
        last = ("sum", (("name", left, ("foot",) if column else ("last", 0)), ("number", 1)))
        columns.append((head, body, last))
    return Sheet(columns)


class SheetChains(unittest.TestCase):
    CELLS = [(column, row) for row in range(-1, 31) for column in ALL]

    def test_all_cells_hang_on_the_first(self):
        sheet, cells = chain_sheet(), self.CELLS
        self.assertEqual(hanging(sheet, 30, (7, 30)), sorted(cells[:-1]))
        self.assertEqual(hanging(sheet, 30, (0, -1)), [])
        self.assertEqual(next_cells(sheet, 30, (7, 30)), [(6, 30)])
        self.assertEqual(reached(sheet, 30, (0, -1)), sorted(cells))
        self.assertEqual([on_rings(sheet, 30), order_for(sheet, 30)], [[], cells])
        self.assertIs(is_order(sheet, 30, cells), True)
        self.assertIs(is_order(sheet, 30, cells[1:] + cells[:1]), False)
        self.assertIs(is_ring(sheet, 30, cells[::-1]), False)

    def test_values(self):
        sheet, cells = chain_sheet(), self.CELLS
        told = values(sheet, 30, {(0, -1): 1000})
        self.assertEqual([told[cell] for cell in cells], list(range(1000, 1256)))
        self.assertEqual(value_at(sheet, 30, {(0, -1): 1000}, (7, 30)), 1255)
        self.assertEqual(changed(sheet, 30, {}, {(0, -1): 1}), sorted(cells))
        self.assertEqual(changed(sheet, 30, {}, {(0, -1): 0}), [(0, -1)])
        live = Live(sheet, 30, {})
        self.assertEqual(live.put((0, -1), 1000), sorted(cells))
        self.assertEqual(live.worked(), sorted(cells[1:]))
        self.assertEqual([live.value(cell) for cell in cells], list(range(1000, 1256)))
        self.assertIs(is_contents(sheet, 30, {(0, -1): 5, (0, 0): 5}), False)
        self.assertEqual(lengthened(sheet, 30, only_inputs(sheet, 30, {(0, -1): 5, (0, 0): 5}), 0), {(0, -1): 5})

    def test_closed_to_a_ring(self):
        sheet = chain_sheet()
        columns = sheet.columns()
        columns[0] = (columns[0][0], ("sum", (columns[0][1], ("name", ("at", 7), ("by", 1)))), columns[0][2])
        ringed_sheet = Sheet(columns)
        bodies = [cell for cell in self.CELLS if 0 <= cell[1] < 30]
        # The first row reads the last column of the second one, and so on; the last row reads no row below.
        self.assertEqual(on_rings(ringed_sheet, 30), sorted(bodies))
        self.assertEqual(values(ringed_sheet, 30, {})[(7, 30)], "#ring")
        self.assertEqual(value_at(ringed_sheet, 30, {(0, -1): 4}, (7, -1)), 11)

    def test_reach(self):
        cells = [(column, row) for row in range(60) for column in ALL]
        self.assertEqual(hanging_on(CHAIN, 60, (7, 59)), sorted(cells[:-1]))
        self.assertEqual(hanging_from(CHAIN, 60, (0, 0)), sorted(cells[1:]))
        self.assertEqual(bar_between(CHAIN, 60, (6, 59), (7, 59)), sorted(cells[:-2]))
        self.assertIs(is_bar_between(CHAIN, 60, (6, 59), (7, 59), sorted(cells[:-2])), True)
        self.assertIs(is_bar_between(CHAIN, 60, (6, 59), (7, 59), sorted(cells[1:-2])), False)
        self.assertEqual([depends(CHAIN, 60, 0, 7), depends(CHAIN, 60, 7, 0)], [list(range(-59, 0)), list(range(-59, 1))])
        self.assertIs(hangs(CHAIN, 60, (7, 59), (7, 59)), False)
        wide = Web(8, [(here, there, None, None) for here in range(6) for there in ALL])
        self.assertEqual(len(hanging_on(wide, 60, (5, 30))), 480)
        self.assertEqual(depends(wide, 60, 0, 7), list(range(-59, 60)))


    def test_forms_and_goals(self):
        sheet = chain_sheet()
        self.assertEqual(form_at(sheet, 30, (7, 30)), (255, {(0, -1): 1}))
        self.assertEqual(solutions(sheet, 30, {}, ((7, 30), 5), [(0, -1)]), ([-250], []))
        self.assertEqual(what_if(sheet, 30, {}, (7, 30), [(0, -1)], [[1], [None], [-255]]), [256, 255, 0])
        self.assertEqual(first_with(sheet, 30, {}, ((7, 30), 300), (0, -1), -100, 100), 45)
        self.assertIsNone(first_with(sheet, 30, {}, ((7, 30), 300), (0, -1), 46, 246))
        self.assertEqual(table(sheet, 30, {}, (6, 30), (0, -1), (0, -1), [1, 2], [3]), [[257], [257]])
        doubled = Sheet([(head, ("times", 2, body) if body[0] == "sum" else body, foot) for head, body, foot in sheet.columns()])
        self.assertEqual(form_at(doubled, 30, (7, 29))[1], {(0, -1): 2 ** 240})
        self.assertEqual(bar(doubled, 30, {}, ((7, 29), 1), [(0, -1)]), 2 ** 240)

    def test_levels(self):
        cells = [(column, row) for row in range(30) for column in ALL]
        self.assertEqual([levels(CHAIN, 30)[cell] for cell in cells], list(range(240)))
        self.assertEqual([level(CHAIN, 30, (7, 29)), rounds(CHAIN, 30), busiest(CHAIN, 30), round_cells(CHAIN, 30, 239)],
                         [239, 240, 1, [(7, 29)]])
        self.assertEqual(level_walk(CHAIN, 30, (7, 29)), cells[::-1])
        self.assertEqual(far_level(CHAIN, 7, 10 ** 30), 8 * 10 ** 30 + 7)
        self.assertEqual([rate(CHAIN, ALL), rate(~CHAIN, ALL)], [(8, 1), (8, 1)])
        self.assertIs(is_rate_paper(~CHAIN, ALL, rate_paper(~CHAIN, ALL)), True)
        self.assertEqual(longest_between(CHAIN, ALL, 30, (7, 29), (0, 0)), 239)
        text = show_levels(CHAIN, 30)
        self.assertEqual(text.split("\n")[29], "232 233 234 235 236 237 238 239")
        self.assertIs(draws(CHAIN, read_levels(text)), True)
        self.assertEqual(len(show_rounds(CHAIN, 30).split("\n")), 241)
        self.assertIs(draws(CHAIN, [[8 * row + column for column in ALL] for row in range(500)]), True)
        self.assertEqual(rounds(COLUMNS, 30), 240)

    def test_texts(self):
        sheet = chain_sheet()
        self.assertEqual(len(show_sheet(sheet).split("\n")), 9)
        self.assertEqual(show_grid(sheet, 30, {(0, -1): 0}).split("\n")[31], "248 | 249 | 250 | 251 | 252 | 253 | 254 | 255")


class Widest(unittest.TestCase):
    def webs(self, draw):
        """Webs of eight columns and forty-eight edges: without loops that do not go up, and such with all sorts."""
        heights = [draw.number(-1, 1) for _ in ALL]
        up, mixed = [], []
        while len(up) < 48:
            here, there = draw.one(ALL), draw.one(ALL)
            high = heights[here] - heights[there] - 1
            edge = (here, there, draw.one([None, max(-5, high - 2)]), high)
            if edge not in up:
                up.append(edge)
        while len(mixed) < 48:
            edge = draw.edge(8)
            if edge not in mixed:
                mixed.append(edge)
        return Web(8, up), Web(8, mixed)

    def test_drawn(self):
        draw = Draw(480)
        for _ in range(6):
            up, mixed = self.webs(draw)
            self.assertEqual([len(up.edges()), len(mixed.edges())], [48, 48])
            told = plan(up)
            self.assertIs(is_plan(up, told), True)
            self.assertIs(is_web_order(up, 30, order_by(told, 30)), True)
            self.assertEqual([ringed(up, 30), ring_at(up, 30)], [[], None])
            for web in (up, ~up):
                for first in ("down", "up"):
                    self.assertIs(are_sweeps(web, sweeps(web, first)), True)
            length = least_ring(mixed)
            self.assertIs(is_web_ring(mixed, length, ring_at(mixed, length)), True)
            self.assertIsNone(ring_at(mixed, length - 1))
            self.assertTrue(set(ring_at(mixed, 30)) <= set(ringed(mixed, 30)))
            for part in parts(mixed):
                self.assertEqual(slope(mixed, part) is None, against(mixed, part) is not None)

    def test_distances_of_all_edges(self):
        edges = [(here, there, low, high) for here in range(4) for there in range(4)
                 for low, high in ((-3, -3), (None, -2), (-1, 2))]
        web = Web(4, edges)
        self.assertEqual(len(web.edges()), 48)
        self.assertEqual(distances(web, 0, 3), ((0, 1, [0]), [0], (0, 1, [0])))
        self.assertIs(is_distance(distances(web, 3, 3), 10 ** 40), True)

    def test_thirty_rows_without_ends(self):
        web = Web(8, [(here, there, None, None) for here in range(6) for there in ALL])
        self.assertEqual(len(web.edges()), 48)
        self.assertEqual(len(next_on(web, 30, (3, 3))), 240)
        self.assertEqual(len(next_from(web, 30, (3, 3))), 180)
        self.assertEqual(ringed(web, 30), [(column, row) for column in range(6) for row in range(30)])
        self.assertEqual(len(ring_at(web, 30)), 1)


class Sheets(unittest.TestCase):
    def test_eight_columns_of_six_reads(self):
        columns = []
        for column in ALL:
            names = [("name", ("by", there - column), ("by", -1 if there else -5)) for there in range(4)]
            names += [("name", ("at", 7), ("by", -1))]
            inner = ("most", (("times", 2, ("sum", tuple(names[:2]))), ("over", names[2], names[3])))
            body = ("sum", (inner, names[4], ("total", ("rows", ("at", 0), None, -1))))
            columns.append((NONE, body, ("name", ("by", 0), ("last", 5))))
        sheet = Sheet(columns)
        self.assertEqual([len(reads(sheet[3][1])), depth(sheet[3][1])], [6, 4])
        self.assertEqual(read_formula(show_formula(sheet[3][1])), sheet[3][1])
        web = web_of(sheet)
        self.assertEqual(len(web.edges()), 48)
        self.assertEqual([first_ring(sheet), least_ring(web)], [None, None])
        self.assertIs(is_web_order(web, 30, order_by(plan(web), 30)), True)
        self.assertEqual(len(sheet.addresses(30)), 256)
        for edited in (exchange(sheet, 0, 7), move_column(sheet, 7, 0), strike_column(put_column(sheet, 3, columns[0]), 3)):
            self.assertEqual(len(web_of(edited).edges()), 48)
            self.assertIsNone(first_ring(edited))
        self.assertEqual(strike_column(put_column(sheet, 3, columns[0]), 3), sheet)

    def test_a_chain_of_heads(self):
        heads = [("name", ("by", -1), ("head",)) for _ in ALL]
        columns = [(head, NONE, ("name", ("by", 1), ("foot",))) for head in heads]
        self.assertIsNone(first_ring(Sheet(columns)))
        columns[0] = (("name", ("at", 7), ("head",)), NONE, NONE)
        self.assertEqual(first_ring(Sheet(columns)), 0)


if __name__ == "__main__":
    unittest.main()
