"""What comes out the same by two ways, and [5] to [8]: the promises of the whole."""

import unittest

from longsheet.alike import alike_columns, are_alike
from longsheet.anew import Live, changed, reached
from longsheet.contents import lengthened, only_inputs
from longsheet.distances import distances, is_distance
from longsheet.edits import exchange, move_column, put_column, strike_column
from longsheet.errors import NoGoal, NotLinear
from longsheet.far import far_total, far_value
from longsheet.formulas import reads
from longsheet.goals import bar, form_at, solutions
from longsheet.graph import web_of
from longsheet.levels import far_level, level_walk, levels, round_cells, rounds
from longsheet.orders import order_by, plan
from longsheet.reach import hanging_on
from longsheet.reckoning import hanging, order_for, value_at, values
from longsheet.rings import least_ring
from longsheet.rising import first_values, shares
from longsheet.sweeps import sweeps
from longsheet.values import plain
from longsheet.walks import walk_between
from longsheet.whatif import first_with, what_if
from longsheet.working import worked_out
from tests.test_rising import contents_of, with_input_heads
from tests.things import NONE, Draw


def reckoned_by(sheet, rows, contents, order):
    """The values of cells that are worked out one behind the other, each by those that are known then."""
    known = {}
    for address in order:
        formula = sheet.formula_at(address, rows)
        if formula == ("input",):
            known[address] = contents.get(address)
        else:
            meant = [sheet.means(address, read, rows) for read in reads(formula)]
            known[address] = worked_out(formula, [None if cells is None else [known[cell] for cell in cells] for cells in meant])
    return known


def swept(web, rows, first):
    """All cells in the order in which sweeps come to them."""
    order = []
    for step, starts in sweeps(web, first):
        order += [cell for _, cell in sorted((starts[column] + step * row,
                                              (column, row)) for column in starts for row in range(rows))]
    return order


class TwoWays(unittest.TestCase):
    def test_orders(self):
        draw = Draw(600)
        asked = 0
        while asked < 60:
            sheet, rows = draw.sheet(), draw.number(0, 5)
            web = web_of(sheet)
            contents = draw.contents(sheet, rows, True)
            told = values(sheet, rows, contents)
            heads, feet = [[(column, row) for column in range(len(sheet))] for row in (-1, rows)]
            if least_ring(web) is not None or "#ring" in told.values():
                continue
            asked += 1
            first = [address for address in order_for(sheet, rows) if address in heads]
            last = [address for address in order_for(sheet, rows) if address in feet]
            for bodies in (order_by(plan(web), rows), swept(web, rows, "down"), swept(web, rows, "up")):
                self.assertEqual(reckoned_by(sheet, rows, contents, first + bodies + last), told)
            self.assertEqual(reckoned_by(sheet, rows, contents, order_for(sheet, rows)), told)
            live = Live(sheet, rows, {})
            for address in sorted(contents, reverse=True):
                if address in sheet.inputs(rows):
                    live.put(address, contents[address])
            self.assertEqual({address: live.value(address) for address in told}, told)

    def test_put_and_changed(self):
        draw = Draw(601)
        for _ in range(60):
            sheet, rows = draw.sheet(), draw.number(0, 4)
            if sheet.inputs(rows):
                contents, address = draw.contents(sheet, rows), draw.one(sheet.inputs(rows))
                later = dict(contents)
                later[address] = draw.number(-9, 9)
                live = Live(sheet, rows, contents)
                self.assertEqual(live.put(address, later[address]), changed(sheet, rows, contents, later))
                self.assertEqual(live.contents(), only_inputs(sheet, rows, later))

    def test_a_put_and_the_weight(self):
        draw = Draw(602)
        asked = 0
        for _ in range(80):
            sheet, rows = draw.rising_sheet(), draw.number(1, 6)
            live = Live(with_input_heads(sheet), rows, contents_of(sheet, draw.flows(sheet), rows))
            cells = [(column, row) for column in range(len(sheet)) for row in range(rows)]
            inputs = [address for address in cells + [(column, -1) for column in range(len(sheet))]
                      if address[1] == -1 or sheet[address[0]][1] == ("input",)]
            for address in inputs:
                before = {cell: live.value(cell) or 0 for cell in cells}
                old, new = live.value(address) or 0, draw.number(-9, 9)
                live.put(address, new)
                for column, row in cells:
                    _, heads, weights = shares(sheet, column, row)
                    weight = heads.get(address[0], 0) if address[1] == -1 else weights.get(address, 0)
                    self.assertEqual((live.value((column, row)) or 0) - before[(column, row)], (new - old) * weight)
                    asked += weight != 0
        self.assertGreater(asked, 200)

    def test_reach_of_sheets(self):
        draw = Draw(603)
        for _ in range(60):
            sheet, rows = draw.sheet(3), draw.number(0, 4)
            web = web_of(sheet)
            tides = {}
            for cell in [address for address in sheet.addresses(rows) if 0 <= address[1] < rows]:
                bodies = [other for other in hanging(sheet, rows, cell) if other[1] >= 0]
                self.assertEqual(hanging_on(web, rows, cell), bodies)
                for other in bodies:
                    self.assertTrue(other == cell or walk_between(web, rows, cell, other) is not None)
                    pair = (cell[0], other[0])
                    if all(end is None or abs(end) <= 3 for edge in web.edges() for end in edge[2:]):
                        tides[pair] = tides[pair] if pair in tides else distances(web, *pair)
                        self.assertIs(is_distance(tides[pair], other[1] - cell[1]), True)

    def test_longer(self):
        draw = Draw(604)
        for _ in range(40):
            sheet, flows = draw.rising_sheet(), None
            flows = draw.flows(sheet)
            contents = contents_of(sheet, flows, 4)
            heads = with_input_heads(sheet)
            longer = lengthened(heads, 4, contents, 7)
            one, other = values(heads, 4, contents), values(heads, 7, longer)
            self.assertEqual([one[(0, row)] for row in range(4)], [other[(0, row)] for row in range(4)])
            self.assertEqual([one[(0, row)] or 0 for row in range(4)], [row[0] for row in first_values(sheet, flows, 4)])


    def test_goals_and_values(self):
        draw = Draw(605)
        led = 0
        for _ in range(300):
            sheet, rows = draw.linear_sheet(), draw.number(0, 3)
            contents, cell = draw.contents(sheet, rows), draw.one(sheet.addresses(rows))
            inputs = sheet.inputs(rows)
            moving = draw.random.sample(inputs, draw.number(0, min(3, len(inputs))))
            goal = (cell, draw.number(-9, 9))
            try:
                point, steps = solutions(sheet, rows, contents, goal, moving)
            except NotLinear:
                continue
            except NoGoal:
                if moving:
                    self.assertIsNone(first_with(sheet, rows, contents, goal, moving[0], -20, 20))
                continue
            led += 1
            for many in (0, 1, -2):
                thing = [one + sum([many * step[at] for step in steps]) for at, one in enumerate(point)]
                later = dict(contents)
                later.update(zip(moving, thing))
                self.assertEqual(plain(value_at(sheet, rows, later, cell)), goal[1])
                self.assertEqual([plain(one) for one in what_if(sheet, rows, contents, cell, moving, [thing])], [goal[1]])
            if len(moving) == 1 and steps == [] and abs(point[0]) <= 20:
                self.assertEqual(first_with(sheet, rows, contents, goal, moving[0], -20, 20), point[0])
            self.assertIsNone(bar(sheet, rows, contents, goal, moving))
        self.assertGreater(led, 20)

    def test_rounds_and_levels(self):
        draw = Draw(606)
        asked = 0
        while asked < 40:
            web, rows = draw.web(5), draw.number(0, 7)
            if least_ring(web) is not None:
                continue
            asked += 1
            told = levels(web, rows)
            self.assertEqual(rounds(web, rows), max(list(told.values()) + [-1]) + 1)
            for number in range(rounds(web, rows)):
                for cell in round_cells(web, rows, number)[:2]:
                    self.assertEqual(len(level_walk(web, rows, cell)), number + 1)

    def test_forms_and_shares(self):
        draw = Draw(607)
        for _ in range(40):
            sheet, rows = draw.rising_sheet(), draw.number(1, 6)
            heads = with_input_heads(sheet)
            for column in range(len(sheet)):
                row = draw.number(0, rows - 1)
                constant, head_weights, weights = shares(sheet, column, row)
                told = {(at, -1): weight for at, weight in head_weights.items()}
                told.update(weights)
                self.assertEqual(form_at(heads, rows, (column, row)), (constant, told))

    def test_shares_and_alike_columns(self):
        draw = Draw(608)
        pairs = 0
        for _ in range(40):
            sheet = draw.rising_sheet()
            groups = {column: at for at, group in enumerate(alike_columns(sheet)) for column in group}
            for one in range(len(sheet)):
                for other in range(one):
                    same = all(shares(sheet, one, row) == shares(sheet, other, row) for row in range(30))
                    self.assertIs(are_alike(sheet, one, other), same)
                    self.assertIs(groups[one] == groups[other], same)
                    if same:
                        pairs += 1
                        flows = draw.flows(sheet, 4)
                        for asked in (far_value, far_total):
                            for row in (5, 10 ** 30):
                                self.assertEqual(*[asked(sheet, flows, column, row, 10 ** 9) for column in (one, other)])
        self.assertGreater(pairs, 3)

    def test_far_levels_of_sheets(self):
        draw = Draw(609)
        for _ in range(30):
            sheet = draw.rising_sheet()
            web = web_of(sheet)
            if all(edge[2] is not None for edge in web.edges()):
                for column in range(len(sheet)):
                    self.assertEqual(far_level(web, column, 12), levels(web, 20)[(column, 12)])
                    self.assertLessEqual(far_level(web, column, 10 ** 30), 4 * (10 ** 30 + 1))


class Whole(unittest.TestCase):
    def test_a_change_changes_what_hangs_on_it_alone(self):
        draw = Draw(700)
        for _ in range(80):
            sheet, rows = draw.sheet(), draw.number(0, 4)
            contents = draw.contents(sheet, rows)
            for address in sheet.inputs(rows)[:4]:
                later = dict(contents)
                later[address] = draw.number(-99, 99)
                self.assertTrue(set(changed(sheet, rows, contents, later)) <= set(reached(sheet, rows, address)))

    def test_names_are_led(self):
        draw = Draw(800)
        asked = 0
        for _ in range(150):
            sheet, rows = draw.sheet(), draw.number(0, 3)
            if len(sheet) == 0:
                continue
            at, to = draw.number(0, len(sheet) - 1), draw.number(0, len(sheet) - 1)
            columns = list(range(len(sheet)))
            moved = [column for column in columns if column != at]
            moved.insert(to, at)
            changes = [at if column == to else to if column == at else column for column in columns]
            for later, places in (
                    (put_column(sheet, at, (NONE, ("number", 5), NONE)), [column + (column >= at) for column in columns]),
                    (strike_column(sheet, at), [None if column == at else column - (column > at) for column in columns]),
                    (move_column(sheet, at, to), [moved.index(column) for column in columns]),
                    (exchange(sheet, at, to), changes)):
                asked += self.check_led(sheet, later, places, rows, draw.contents(sheet, rows))
        self.assertGreater(asked, 500)

    def check_led(self, sheet, later, places, rows, contents):
        led = {(places[column], row): number for (column, row), number in contents.items() if places[column] is not None}
        one, other = values(sheet, rows, contents), values(later, rows, led)
        asked = 0
        for address in one:
            cells = [address] + hanging(sheet, rows, address)
            meant = [sheet.means(cell, read, rows) for cell in cells for read in reads(sheet.formula_at(cell, rows))]
            if None not in meant and None not in [places[cell[0]] for cell in cells]:
                named = [sheet.means((cell[0], 0), ("rows", read[1], None, None), 1)[0][0] for cell in cells
                         for read in reads(sheet.formula_at(cell, rows))]
                if None not in [places[column] for column in named]:
                    self.assertEqual(one[address], other[(places[address[0]], address[1])])
                    asked += 1
        return asked


if __name__ == "__main__":
    unittest.main()
