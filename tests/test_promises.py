"""[3]: nothing passed is changed, what is returned is new in all of its parts, equal arguments give equal results."""

import copy
import unittest

from longsheet import edits, formulas, graph, led, names, notation, orders, parts, rings, slopes, sweeps, walks
from longsheet.errors import SheetError
from longsheet.graph import Web
from longsheet.sheets import Sheet
from tests.things import NONE, Draw, cells_of


def snapshot(thing):
    """What can be compared later: a deep copy, with what Sheets and Webs tell in their places."""
    if isinstance(thing, Sheet):
        return ("sheet", thing.columns())
    if isinstance(thing, Web):
        return ("web", len(thing), thing.edges())
    if isinstance(thing, (list, tuple)):
        return type(thing)([snapshot(part) for part in thing])
    return copy.deepcopy(thing)


def holders(thing):
    """All lists and dicts in a result, each as often as it stands there."""
    found = [thing] if isinstance(thing, (list, dict)) else []
    inner = list(thing.values()) if isinstance(thing, dict) else thing
    if isinstance(thing, (list, tuple, dict)):
        for part in inner:
            found += holders(part)
    return found


class Promises(unittest.TestCase):
    def ask(self, asked, *args):
        """Asks twice, and changes all of the first answer in between; returns the second one."""
        kept = snapshot(args)
        try:
            first = asked(*args)
        except SheetError as error:
            with self.assertRaises(type(error)) as caught:
                asked(*args)
            self.assertEqual(vars(caught.exception), vars(error))
            self.assertEqual(snapshot(args), kept)
            return None
        told = snapshot(first)
        inner = holders(first)
        self.assertEqual(len({id(holder) for holder in inner}), len(inner), asked)
        for holder in inner:
            if isinstance(holder, dict):
                self.assertEqual(list(holder), sorted(holder))
            for passed in args:
                self.assertFalse(any(holder is other for other in holders(passed)))
        for holder in inner:
            holder.clear()
        self.assertEqual(snapshot(args), kept, asked)
        second = asked(*args)
        self.assertEqual(snapshot(second), told, asked)
        return second

    def ask_web(self, web, rows, draw):
        for asked in (web.edges, web.__invert__, web.__len__):
            self.ask(asked)
        for asked in (parts.parts, rings.least_ring, orders.plan):
            self.ask(asked, web)
        for asked in (rings.ring_at, rings.ringed):
            self.ask(asked, web, rows)
        cells = cells_of(web, rows)
        for _ in range(3 if cells else 0):
            one, other = draw.one(cells), draw.one(cells)
            self.ask(graph.next_on, web, rows, one)
            self.ask(graph.next_from, web, rows, one)
            walk = self.ask(walks.walk_between, web, rows, one, other)
            self.ask(walks.is_walk, web, rows, walk)
            self.ask(walks.is_web_ring, web, rows, walk)
        draw.random.shuffle(cells)
        self.ask(orders.first_late, web, rows, cells)
        self.ask(orders.is_web_order, web, rows, cells)
        for part in parts.parts(web):
            self.ask(parts.way, web, part)
            told = self.ask(slopes.slope, web, part)
            self.ask(slopes.is_slope, web, part, told)
            loops = self.ask(rings.against, web, part)
            self.ask(rings.is_against, web, part, loops)
            if loops is not None:
                self.ask(walks.is_loop, web, loops[0])
                self.ask(walks.sum_of, loops[0])

    def ask_orders(self, web, rows):
        told = self.ask(orders.plan, web)
        self.ask(orders.is_plan, web, told)
        for first in ("down", "up"):
            self.ask(sweeps.fewest_sweeps, web, first)
            self.ask(sweeps.are_sweeps, web, self.ask(sweeps.sweeps, web, first))
            row = self.ask(sweeps.needing_row, web, first)
            self.ask(sweeps.row_needs, web, first, row or [])
            self.ask(sweeps.is_row, web, row)
        if told is not None:
            self.ask(orders.order_by, told, rows)

    def test_webs(self):
        draw = Draw(3)
        for _ in range(120):
            web, rows = draw.web(), draw.number(0, 6)
            self.ask_web(web, rows, draw)
            self.ask_orders(web, rows)

    def test_sheets(self):
        draw = Draw(4)
        for _ in range(120):
            sheet, rows = draw.sheet(), draw.number(0, 4)
            self.ask(sheet.columns)
            self.ask(sheet.inputs, rows)
            for address in self.ask(sheet.addresses, rows)[:6]:
                for read in formulas.reads(self.ask(sheet.formula_at, address, rows)):
                    self.ask(sheet.means, address, read, rows)
            self.ask(graph.web_of, sheet)
            self.ask(rings.first_ring, sheet)
            at, to = draw.number(0, 4), draw.number(0, 4)
            self.ask(edits.put_column, sheet, at, (NONE, ("input",), NONE))
            self.ask(edits.strike_column, sheet, at)
            self.ask(edits.move_column, sheet, at, to)
            self.ask(edits.exchange, sheet, at, to)
            self.ask(edits.copy_columns, sheet, at, to, draw.number(1, 2))
            self.ask(edits.set_formula, sheet, at, draw.one(["head", "body", "foot"]), draw.formula("body"))

    def test_formulas(self):
        draw = Draw(5)
        for _ in range(200):
            formula = draw.formula("body", 3)
            for asked in (formulas.is_formula, formulas.parts, formulas.depth, formulas.is_linear, notation.show_formula):
                self.ask(asked, formula)
            reads = self.ask(formulas.reads, formula)
            self.ask(formulas.with_reads, formula, reads)
            self.ask(led.led, formula, 0, 1, [1, None, 0])
            self.ask(notation.read_at, self.ask(notation.show_at, formula, 2, 6), 2, 6)
            for read in reads:
                self.ask(names.column_of, read, 2)
                self.ask(names.with_column, read, ("lost",))

    def test_equal_arguments(self):
        draw = Draw(6)
        for _ in range(100):
            web = draw.web()
            edges = web.edges() * 1
            draw.random.shuffle(edges)
            other = Web(len(web), tuple(edges))
            self.assertEqual(other, web)
            self.assertEqual(parts.parts(other), parts.parts(web))
            for part in parts.parts(web):
                self.assertEqual(rings.against(other, part), rings.against(web, part))
            rows = draw.number(0, 5)
            self.assertEqual(rings.ring_at(other, rows), rings.ring_at(web, rows))
            if rings.least_ring(web) is None:
                self.assertEqual(sweeps.needing_row(other, "up"), sweeps.needing_row(web, "up"))
                self.assertEqual(sweeps.sweeps(other, "down"), sweeps.sweeps(web, "down"))


if __name__ == "__main__":
    unittest.main()
