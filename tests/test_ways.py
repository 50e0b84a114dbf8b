"""What comes out the same by two ways, and [5] to [8]: the promises of the whole."""

import unittest

from longsheet.anew import Live, changed, reached
from longsheet.contents import lengthened, only_inputs
from longsheet.distances import distances, is_distance
from longsheet.edits import exchange, move_column, put_column, strike_column
from longsheet.formulas import reads
from longsheet.graph import web_of
from longsheet.orders import order_by, plan
from longsheet.reach import hanging_on
from longsheet.reckoning import hanging, order_for, values
from longsheet.rings import least_ring
from longsheet.rising import first_values, shares
from longsheet.sweeps import sweeps
from longsheet.walks import walk_between
from longsheet.working import worked_out
from tests.test_rising import contents_of, with_input_heads
from tests.things import NONE, Draw


def reckoned_by(sheet, rows, contents, order):
    """The values of cells that are worked out one behind the other, each by those that are known then."""
    known = {}
    for address in order:
        formula = sheet.formula_at(address, rows)
        if formula == ("input",):
            known[address] = contents.get(address)
        else:
            meant = [sheet.means(address, read, rows) for read in reads(formula)]
            known[address] = worked_out(formula, [None if cells is None else [known[cell] for cell in cells] for cells in meant])
    return known


def swept(web, rows, first):
    """All cells in the order in which sweeps come to them."""
    order = []
    for step, starts in sweeps(web, first):
        order += [cell for _, cell in sorted((starts[column] + step * row, (column, row)) for column in starts for row in range(rows))]
    return order


class TwoWays(unittest.TestCase):
    def test_orders(self):
        draw = Draw(600)
        asked = 0
        while asked < 60:
            sheet, rows = draw.sheet(), draw.number(0, 5)
            web = web_of(sheet)
            contents = draw.contents(sheet, rows, True)
            told = values(sheet, rows, contents)
            heads, feet = [[(column, row) for column in range(len(sheet))] for row in (-1, rows)]
            if least_ring(web) is not None or "#ring" in told.values():
                continue
            asked += 1
            first = [address for address in order_for(sheet, rows) if address in heads]
            last = [address for address in order_for(sheet, rows) if address in feet]
            for bodies in (order_by(plan(web), rows), swept(web, rows, "down"), swept(web, rows, "up")):
                self.assertEqual(reckoned_by(sheet, rows, contents, first + bodies + last), told)
            self.assertEqual(reckoned_by(sheet, rows, contents, order_for(sheet, rows)), told)
            live = Live(sheet, rows, {})
            for address in sorted(contents, reverse=True):
                if address in sheet.inputs(rows):
                    live.put(address, contents[address])
            self.assertEqual({address: live.value(address) for address in told}, told)

    def test_put_and_changed(self):
        draw = Draw(601)
        for _ in range(60):
            sheet, rows = draw.sheet(), draw.number(0, 4)
            if sheet.inputs(rows):
                contents, address = draw.contents(sheet, rows), draw.one(sheet.inputs(rows))
                later = dict(contents)
                later[address] = draw.number(-9, 9)
                live = Live(sheet, rows, contents)
                self.assertEqual(live.put(address, later[address]), changed(sheet, rows, contents, later))
                self.assertEqual(live.contents(), only_inputs(sheet, rows, later))

    def test_a_put_and_the_weight(self):
        draw = Draw(602)
        asked = 0
        for _ in range(80):
            sheet, rows = draw.rising_sheet(), draw.number(1, 6)
            live = Live(with_input_heads(sheet), rows, contents_of(sheet, draw.flows(sheet), rows))
            cells = [(column, row) for column in range(len(sheet)) for row in range(rows)]
            inputs = [address for address in cells + [(column, -1) for column in range(len(sheet))]
                      if address[1] == -1 or sheet[address[0]][1] == ("input",)]
            for address in inputs:
                before = {cell: live.value(cell) or 0 for cell in cells}
                old, new = live.value(address) or 0, draw.number(-9, 9)
                live.put(address, new)
                for column, row in cells:
                    _, heads, weights = shares(sheet, column, row)
                    weight = heads.get(address[0], 0) if address[1] == -1 else weights.get(address, 0)
                    self.assertEqual((live.value((column, row)) or 0) - before[(column, row)], (new - old) * weight)
                    asked += weight != 0
        self.assertGreater(asked, 200)

    def test_reach_of_sheets(self):
        draw = Draw(603)
        for _ in range(60):
            sheet, rows = draw.sheet(3), draw.number(0, 4)
            web = web_of(sheet)
            tides = {}
            for cell in [address for address in sheet.addresses(rows) if 0 <= address[1] < rows]:
                bodies = [other for other in hanging(sheet, rows, cell) if other[1] >= 0]
                self.assertEqual(hanging_on(web, rows, cell), bodies)
                for other in bodies:
                    self.assertTrue(other == cell or walk_between(web, rows, cell, other) is not None)
                    pair = (cell[0], other[0])
                    if all(end is None or abs(end) <= 3 for edge in web.edges() for end in edge[2:]):
                        tides[pair] = tides[pair] if pair in tides else distances(web, *pair)
                        self.assertIs(is_distance(tides[pair], other[1] - cell[1]), True)

    def test_longer(self):
        draw = Draw(604)
        for _ in range(40):
            sheet, flows = draw.rising_sheet(), None
            flows = draw.flows(sheet)
            contents = contents_of(sheet, flows, 4)
            heads = with_input_heads(sheet)
            longer = lengthened(heads, 4, contents, 7)
            one, other = values(heads, 4, contents), values(heads, 7, longer)
            self.assertEqual([one[(0, row)] for row in range(4)], [other[(0, row)] for row in range(4)])
            self.assertEqual([one[(0, row)] or 0 for row in range(4)], [row[0] for row in first_values(sheet, flows, 4)])


class Whole(unittest.TestCase):
    def test_a_change_changes_what_hangs_on_it_alone(self):
        draw = Draw(700)
        for _ in range(80):
            sheet, rows = draw.sheet(), draw.number(0, 4)
            contents = draw.contents(sheet, rows)
            for address in sheet.inputs(rows)[:4]:
                later = dict(contents)
                later[address] = draw.number(-99, 99)
                self.assertTrue(set(changed(sheet, rows, contents, later)) <= set(reached(sheet, rows, address)))

    def test_names_are_led(self):
        draw = Draw(800)
        asked = 0
        for _ in range(150):
            sheet, rows = draw.sheet(), draw.number(0, 3)
            if len(sheet) == 0:
                continue
            at, to = draw.number(0, len(sheet) - 1), draw.number(0, len(sheet) - 1)
            columns = list(range(len(sheet)))
            moved = [column for column in columns if column != at]
            moved.insert(to, at)
            changes = [at if column == to else to if column == at else column for column in columns]
            for later, places in (
                    (put_column(sheet, at, (NONE, ("number", 5), NONE)), [column + (column >= at) for column in columns]),
                    (strike_column(sheet, at), [None if column == at else column - (column > at) for column in columns]),
                    (move_column(sheet, at, to), [moved.index(column) for column in columns]), (exchange(sheet, at, to), changes)):
                asked += self.check_led(sheet, later, places, rows, draw.contents(sheet, rows))
        self.assertGreater(asked, 500)

    def check_led(self, sheet, later, places, rows, contents):
        led = {(places[column], row): number for (column, row), number in contents.items() if places[column] is not None}
        one, other = values(sheet, rows, contents), values(later, rows, led)
        asked = 0
        for address in one:
            cells = [address] + hanging(sheet, rows, address)
            meant = [sheet.means(cell, read, rows) for cell in cells for read in reads(sheet.formula_at(cell, rows))]
            if None not in meant and None not in [places[cell[0]] for cell in cells]:
                named = [sheet.means((cell[0], 0), ("rows", read[1], None, None), 1)[0][0] for cell in cells
                         for read in reads(sheet.formula_at(cell, rows))]
                if None not in [places[column] for column in named]:
                    self.assertEqual(one[address], other[(places[address[0]], address[1])])
                    asked += 1
        return asked


if __name__ == "__main__":
    unittest.main()
