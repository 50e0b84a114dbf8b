"""[3]: nothing passed is changed, what is returned is new in all of its parts, equal arguments give equal results."""

import copy
import unittest

from longsheet import (alike, anew, asks, back, chains, charts, checks, classes, contents, distances, edits, far, formulas, goals, graph,
                       guards, leading, led, levels, lots, names, notation, orders, parts, rates, reach, readers, reckoning, rings,
                       rising, safe, slopes, sure, sweeps, texts, walks, whatif, working)
from longsheet.book import Book
from longsheet.desk import Desk
from longsheet.errors import SheetError
from longsheet.graph import Web
from longsheet.sheets import Sheet
from longsheet.spans import Spans
from longsheet.wards import Ward
from tests.test_safe import drawn_checks
from tests.things import NONE, Draw, cells_of


def snapshot(thing):
    """What can be compared later: a deep copy, with what Sheets and Webs tell in their places."""
    if isinstance(thing, Sheet):
        return ("sheet", thing.columns())
    if isinstance(thing, Web):
        return ("web", len(thing), thing.edges())
    if isinstance(thing, Spans):
        return ("spans", thing.pairs())
    if isinstance(thing, Book):
        return ("book", thing.sheet.columns(), thing.rows, thing.rings, thing.contents(), thing.log())
    if isinstance(thing, Ward):
        return ("ward", snapshot(thing.book()), thing.checks(), thing.order())
    if isinstance(thing, dict):
        return {key: snapshot(value) for key, value in thing.items()}
    if isinstance(thing, (list, tuple)):
        return type(thing)([snapshot(part) for part in thing])
    return copy.deepcopy(thing)


def holders(thing):
    """All lists and dicts in a result, each as often as it stands there."""
    found = [thing] if isinstance(thing, (list, dict)) else []
    inner = list(thing.values()) if isinstance(thing, dict) else thing
    if isinstance(thing, (list, tuple, dict)):
        for part in inner:
            found += holders(part)
    return found


class Promises(unittest.TestCase):
    def ask(self, asked, *args):
        """Asks twice, and changes all of the first answer in between; returns the second one."""
        kept = snapshot(args)
        try:
            first = asked(*args)
        except SheetError as error:
            with self.assertRaises(type(error)) as caught:
                asked(*args)
            self.assertEqual(vars(caught.exception), vars(error))
            self.assertEqual(snapshot(args), kept)
            return None
        told = snapshot(first)
        inner = holders(first)
        self.assertEqual(len({id(holder) for holder in inner}), len(inner), asked)
        for holder in inner:
            if isinstance(holder, dict):
                self.assertEqual(list(holder), sorted(holder))
            for passed in args:
                self.assertFalse(any(holder is other for other in holders(passed)))
        for holder in inner:
            holder.clear()
        self.assertEqual(snapshot(args), kept, asked)
        second = asked(*args)
        self.assertEqual(snapshot(second), told, asked)
        return second

    def ask_web(self, web, rows, draw):
        for asked in (web.edges, web.__invert__, web.__len__):
            self.ask(asked)
        for asked in (parts.parts, rings.least_ring, orders.plan):
            self.ask(asked, web)
        for asked in (rings.ring_at, rings.ringed):
            self.ask(asked, web, rows)
        cells = cells_of(web, rows)
        for _ in range(3 if cells else 0):
            one, other = draw.one(cells), draw.one(cells)
            self.ask(graph.next_on, web, rows, one)
            self.ask(graph.next_from, web, rows, one)
            walk = self.ask(walks.walk_between, web, rows, one, other)
            self.ask(walks.is_walk, web, rows, walk)
            self.ask(walks.is_web_ring, web, rows, walk)
        draw.random.shuffle(cells)
        self.ask(orders.first_late, web, rows, cells)
        self.ask(orders.is_web_order, web, rows, cells)
        for part in parts.parts(web):
            self.ask(parts.way, web, part)
            told = self.ask(slopes.slope, web, part)
            self.ask(slopes.is_slope, web, part, told)
            loops = self.ask(rings.against, web, part)
            self.ask(rings.is_against, web, part, loops)
            if loops is not None:
                self.ask(walks.is_loop, web, loops[0])
                self.ask(walks.sum_of, loops[0])

    def ask_orders(self, web, rows):
        told = self.ask(orders.plan, web)
        self.ask(orders.is_plan, web, told)
        for first in ("down", "up"):
            self.ask(sweeps.fewest_sweeps, web, first)
            self.ask(sweeps.are_sweeps, web, self.ask(sweeps.sweeps, web, first))
            row = self.ask(sweeps.needing_row, web, first)
            self.ask(sweeps.row_needs, web, first, row or [])
            self.ask(sweeps.is_row, web, row)
        if told is not None:
            self.ask(orders.order_by, told, rows)

    def test_webs(self):
        draw = Draw(3)
        for _ in range(120):
            web, rows = draw.web(), draw.number(0, 6)
            self.ask_web(web, rows, draw)
            self.ask_orders(web, rows)

    def test_sheets(self):
        draw = Draw(4)
        for _ in range(120):
            sheet, rows = draw.sheet(), draw.number(0, 4)
            self.ask(sheet.columns)
            self.ask(sheet.inputs, rows)
            for address in self.ask(sheet.addresses, rows)[:6]:
                for read in formulas.reads(self.ask(sheet.formula_at, address, rows)):
                    self.ask(sheet.means, address, read, rows)
            self.ask(graph.web_of, sheet)
            self.ask(rings.first_ring, sheet)
            at, to = draw.number(0, 4), draw.number(0, 4)
            self.ask(edits.put_column, sheet, at, (NONE, ("input",), NONE))
            self.ask(edits.strike_column, sheet, at)
            self.ask(edits.move_column, sheet, at, to)
            self.ask(edits.exchange, sheet, at, to)
            self.ask(edits.copy_columns, sheet, at, to, draw.number(1, 2))
            self.ask(edits.set_formula, sheet, at, draw.one(["head", "body", "foot"]), draw.formula("body"))

    def test_reach(self):
        draw = Draw(7)
        for _ in range(40):
            web, rows = draw.web(3), draw.number(1, 5)
            for cell in cells_of(web, rows)[:2]:
                other = draw.one(cells_of(web, rows))
                for asked in (reach.hanging_on, reach.hanging_from):
                    self.ask(asked, web, rows, cell)
                for asked in (reach.hangs, reach.bar_between):
                    self.ask(asked, web, rows, cell, other)
                self.ask(reach.is_bar_between, web, rows, cell, other, reach.hanging_on(web, rows, cell))
                self.ask(reach.depends, web, rows, cell[0], other[0])
        for _ in range(20):
            web = Web(2, [(draw.number(0, 1), draw.number(0, 1)) + draw.one([(2, 2), (-3, -3), (None, 1),
                                                                             (0, 1)]) for _ in range(3)])
            tide = self.ask(distances.distances, web, 0, 1)
            self.ask(distances.is_distance, tide, 5)
            self.ask(distances.count_distances, tide, -8, 9)
            self.ask(distances.are_steps, web, 0, 1, self.ask(distances.steps_for, web, 0, 1, draw.number(-9, 9)))

    def test_reckoning(self):
        draw = Draw(8)
        for _ in range(60):
            sheet, rows = draw.sheet(), draw.number(0, 4)
            told, later = draw.contents(sheet, rows, True), draw.contents(sheet, rows)
            for asked in (contents.only_inputs, contents.is_contents, reckoning.values):
                self.ask(asked, sheet, rows, told)
            self.ask(contents.lengthened, sheet, rows, told, draw.number(0, 6))
            self.ask(anew.changed, sheet, rows, told, later)
            self.ask(reckoning.on_rings, sheet, rows)
            order = self.ask(reckoning.order_for, sheet, rows)
            self.ask(reckoning.is_order, sheet, rows, order)
            self.ask(reckoning.is_ring, sheet, rows, order)
            for address in sheet.addresses(rows)[:5]:
                for asked in (reckoning.next_cells, reckoning.hanging, anew.reached):
                    self.ask(asked, sheet, rows, address)
                self.ask(reckoning.value_at, sheet, rows, told, address)
                formula = sheet.formula_at(address, rows)
                if formula != ("input",):
                    self.ask(working.worked_out, formula, [[1, None] for _ in formulas.reads(formula)])
            live = anew.Live(sheet, rows, later)
            for address in sheet.inputs(rows)[:3]:
                live.put(address, 5)
                for asked in (live.worked, live.contents):
                    self.ask(asked)
                self.ask(live.value, address)

    def test_order_of_keys_means_nothing(self):
        draw = Draw(9)
        for _ in range(60):
            sheet, rows = draw.sheet(), draw.number(0, 4)
            told = draw.contents(sheet, rows, True)
            turned = {key: told[key] for key in list(told)[::-1]}
            other = Sheet([list(column) for column in sheet.columns()])
            for asked in (contents.only_inputs, reckoning.values):
                self.assertEqual(list(asked(sheet, rows, told).items()), list(asked(other, rows, turned).items()))
            live, again = [anew.Live(sheet, rows, contents.only_inputs(sheet, rows, told)) for _ in range(2)]
            for address in sheet.inputs(rows)[:3]:
                self.assertEqual([live.put(address, 3), live.worked()], [again.put(address, 3), again.worked()])

    def test_rising(self):
        draw = Draw(10)
        for _ in range(40):
            sheet = draw.one([draw.rising_sheet(), draw.sheet(), draw.linear_sheet()])
            flows = draw.flows(sheet)
            self.ask(rising.is_rising, sheet)
            self.ask(rising.is_flows, sheet, flows)
            self.ask(rising.first_values, sheet, flows, draw.number(0, 6))
            if len(sheet):
                one, other = draw.number(0, len(sheet) - 1), draw.number(0, len(sheet) - 1)
                self.ask(rising.shares, sheet, one, draw.number(0, 6))
                told = self.ask(alike.parting, sheet, one, other)
                self.ask(alike.is_parting, sheet, one, other, told)
                self.ask(alike.are_alike, sheet, one, other)
                self.ask(alike.plain_column, sheet, one)
                flows = draw.flows(sheet, 4)
                for asked in (far.far_value, far.far_total):
                    self.ask(asked, sheet, flows, one, draw.one([2, 5, 10 ** 20]), 1000)
            self.ask(alike.alike_columns, sheet)

    def test_goals(self):
        draw = Draw(11)
        for _ in range(60):
            sheet, rows = draw.linear_sheet(), draw.number(0, 3)
            told = draw.contents(sheet, rows, True)
            address, inputs = draw.one(sheet.addresses(rows)), sheet.inputs(rows)
            moving = draw.random.sample(inputs, draw.number(0, len(inputs)))
            goal = (address, draw.number(-5, 5))
            self.ask(goals.form_at, sheet, rows, address)
            found = self.ask(goals.solutions, sheet, rows, told, goal, moving)
            self.ask(goals.is_solution, sheet, rows, told, goal, moving, found and found[0])
            self.ask(goals.is_bar, sheet, rows, told, goal, moving, self.ask(goals.bar, sheet, rows, told, goal, moving))
            lists = [[draw.one([None, 3]) for _ in moving] for _ in range(2)]
            self.ask(whatif.what_if, sheet, rows, told, address, moving, lists)
            if len(inputs) > 1:
                self.ask(whatif.table, sheet, rows, told, address, inputs[0], inputs[1], [1, 2], [3])
                self.ask(whatif.first_with, sheet, rows, told, goal, inputs[0], -9, 9)
            turned = {key: told[key] for key in list(told)[::-1]}
            self.assertEqual(whatif.what_if(sheet, rows, told, address, moving, lists),
                             whatif.what_if(sheet, rows, turned, address, moving, lists))

    def test_levels(self):
        draw = Draw(12)
        for _ in range(80):
            web, rows = draw.web(4), draw.number(1, 5)
            if len(web) == 0:
                continue
            cell = draw.one(cells_of(web, rows))
            for asked in (levels.level, levels.level_walk):
                self.ask(asked, web, rows, cell)
            for asked in (levels.levels, levels.rounds, levels.busiest, charts.show_levels, charts.show_rounds):
                self.ask(asked, web, rows)
            self.ask(levels.round_cells, web, rows, 0)
            text = self.ask(charts.show_levels, web, rows)
            self.ask(charts.draws, web, self.ask(charts.read_levels, text))
            for part in parts.parts(web):
                self.ask(rates.rate, web, part)
                cells = [one for one in cells_of(web, rows) if one[0] in part]
                self.ask(rates.longest_between, web, part, rows, draw.one(cells), draw.one(cells))
                if parts.way(web, part) in ("up", "down"):
                    self.ask(rates.is_rate_paper, web, part, self.ask(rates.rate_paper, web, part))
        web = Web(3, [(0, 1, -2, 0), (1, 0, -1, -1), (2, 0, -3, 0)])
        for row in (0, 7, 10 ** 30):
            self.ask(levels.far_level, web, 2, row)

    def test_texts(self):
        draw = Draw(13)
        for _ in range(40):
            sheet, rows = draw.sheet(), draw.number(0, 3)
            told = draw.contents(sheet, rows)
            self.ask(texts.show_sheet, sheet)
            self.ask(texts.show_contents, told)
            self.assertEqual(texts.show_contents({key: told[key] for key in list(told)[::-1]}), texts.show_contents(told))
            self.ask(texts.show_grid, sheet, rows, told)
            for address in sheet.addresses(rows)[:4]:
                self.ask(texts.show_cell, address, rows)

    def test_spans_and_lots(self):
        draw = Draw(14)
        for _ in range(60):
            one, other, lot, more = draw.spans(), draw.spans(), draw.lot(), draw.lot()
            for asked in (one.pairs, one.least, one.many, one.__len__, one.__invert__):
                self.ask(asked)
            for asked in (one.__or__, one.__and__, one.__sub__, one.__eq__):
                self.ask(asked, other)
            self.ask(lots.all_values)
            for asked in (lots.is_lot, lots.other_lot):
                self.ask(asked, lot)
            self.ask(lots.both_lots, lot, more)
            self.ask(lots.in_lot, lot, draw.one([None, 3, "#zero"]))
            formula = draw.formula_of(("name", ("at", 0), ("by", 0)))
            self.ask(leading.led_back, formula, 0, 0, [[None]], lot)
            self.ask(leading.led_back, ("total", ("rows", ("by", 0), 0, 1)), 0, 1, [[4, 5]], lot)

    def test_back(self):
        draw = Draw(15)
        for _ in range(60):
            sheet, rows = draw.input_sheet(), draw.number(1, 3)
            told = draw.contents(sheet, rows, True)
            for address in sheet.inputs(rows)[:3]:
                cell = draw.one(sheet.addresses(rows))
                self.ask(chains.leads_once, sheet, rows, address, cell)
                self.ask(chains.chain, sheet, rows, address, cell)
                self.ask(back.back, sheet, rows, told, address, cell, draw.lot())
                for asked in (back.numbers_for, back.nearest):
                    self.ask(asked, sheet, rows, told, address, cell, draw.one([None, 0, "#zero", 3]))
                self.ask(back.errors_for, sheet, rows, told, address, cell)
                self.ask(back.outcomes, sheet, rows, told, address, cell, [0, None, "#zero"])
                turned = {key: told[key] for key in list(told)[::-1]}
                self.assertEqual(snapshot(self.ask(back.errors_for, sheet, rows, turned, address, cell)),
                                 snapshot(self.ask(back.errors_for, sheet, rows, told, address, cell)))

    def test_checks(self):
        draw = Draw(16)
        for _ in range(60):
            sheet = draw.input_sheet()
            columns = asks.input_columns(sheet)
            some = drawn_checks(draw, sheet, 3) if draw.number(0, 1) else draw.checks(columns, 3)
            entry, other = [{column: draw.one([None, 0, 1, -3]) for column in columns[::-1]} for _ in range(2)]
            self.ask(asks.input_columns, sheet)
            self.ask(asks.entry_at, sheet, draw.contents(sheet, 2, True), 1)
            self.ask(asks.is_entry, sheet, entry)
            for check in some:
                self.ask(checks.is_check, check)
                self.ask(checks.fits_sheet, check, sheet)
                for test in self.ask(checks.tests_of, check):
                    self.ask(asks.told_by, test)
                    self.ask(asks.test_answer, test, 3)
                    self.ask(classes.bands, [test])
                self.ask(checks.asked_of, check, entry)
                self.ask(checks.check_answer, check, entry)
                self.ask(classes.entry_apart, sheet, check, some[0])
            self.ask(classes.class_entries, sheet, some)
            self.ask(classes.class_entry, sheet, some, entry)
            self.ask(classes.are_like, sheet, some, entry, other)
            order = self.ask(safe.safe_order, sheet, some) or list(range(len(some)))
            self.ask(safe.outcome, some, order, entry)
            self.ask(safe.are_in_order, some, order)
            self.ask(safe.broken_entry, sheet, some, order[::-1])
            self.ask(safe.is_stuck, sheet, some, self.ask(safe.stuck, sheet, some))
            for at in range(len(some)):
                for asked in (guards.all_guards, guards.least_guards, guards.bare_entry):
                    self.ask(asked, sheet, some, at)
                self.ask(guards.are_guards, sheet, some, at, [])
                if at:
                    self.ask(safe.must_lead, sheet, some, 0, at)
            self.ask(sure.is_kept, some, entry)
            for asked in (sure.entry_between, sure.covers):
                self.ask(asked, sheet, some, some[:1])
            self.ask(sure.needless, sheet, some)
            for column in range(len(sheet)):
                self.ask(sure.divisors, sheet[column][1])
                self.ask(sure.is_ready, sheet, column)
                for asked in (sure.zero_entry, sure.protecting):
                    self.ask(asked, sheet, some, column)

    def test_books_and_wards(self):
        draw = Draw(17)
        for _ in range(60):
            sheet = draw.input_sheet()
            book, desk = Book(sheet, rows=draw.number(1, 3)), Desk(sheet)
            for held in (book, Ward(book, [])):
                for _ in range(4):
                    edit = draw.edit(sheet, 3)
                    kept = snapshot(edit)
                    try:
                        draw.one([held.do, lambda one: held.do_all([one])])(edit)
                    except SheetError:
                        pass
                    self.assertEqual(snapshot(edit), kept)
                asked = (book.contents, book.log, book.copied, book.__len__) if held is book else (held.book, held.checks, held.order, held.copied)
                for one in asked:
                    self.ask(one)
                for address in held.copied().sheet.addresses(1) if held is book else []:
                    self.ask(book.value, address)
            self.ask(desk.book)
            for line in ("sheet", "grid", "contents", "cell 0 head"):
                self.ask(desk.execute, line)

    def test_readers(self):
        draw = Draw(18)
        for _ in range(30):
            sheet = draw.sheet()
            self.ask(readers.read_sheet, texts.show_sheet(sheet))
            self.ask(readers.read_contents, texts.show_contents(draw.contents(sheet, 3)))
            self.ask(readers.read_cell, "0 foot", 3)

    def test_formulas(self):
        draw = Draw(5)
        for _ in range(200):
            formula = draw.formula("body", 3)
            for asked in (formulas.is_formula, formulas.parts, formulas.depth, formulas.is_linear, notation.show_formula):
                self.ask(asked, formula)
            reads = self.ask(formulas.reads, formula)
            self.ask(formulas.with_reads, formula, reads)
            self.ask(led.led, formula, 0, 1, [1, None, 0])
            self.ask(notation.read_at, self.ask(notation.show_at, formula, 2, 6), 2, 6)
            for read in reads:
                self.ask(names.column_of, read, 2)
                self.ask(names.with_column, read, ("lost",))

    def test_equal_arguments(self):
        draw = Draw(6)
        for _ in range(100):
            web = draw.web()
            edges = web.edges() * 1
            draw.random.shuffle(edges)
            other = Web(len(web), tuple(edges))
            self.assertEqual(other, web)
            self.assertEqual(parts.parts(other), parts.parts(web))
            for part in parts.parts(web):
                self.assertEqual(rings.against(other, part), rings.against(web, part))
            rows = draw.number(0, 5)
            self.assertEqual(rings.ring_at(other, rows), rings.ring_at(web, rows))
            if rings.least_ring(web) is None:
                self.assertEqual(sweeps.needing_row(other, "up"), sweeps.needing_row(web, "up"))
                self.assertEqual(sweeps.sweeps(other, "down"), sweeps.sweeps(web, "down"))


if __name__ == "__main__":
    unittest.main()
