"""The examples of the document, as they stand there, and those of README.md."""

import doctest
import pathlib
import unittest

README = pathlib.Path(__file__).resolve().parent.parent / "README.md"

PART_1 = r'''
>>> from longsheet.formulas import fits, is_linear, reads
>>> from longsheet.notation import read_at, read_formula, show_at, show_formula
>>> above, left = ("name", ("by", 0), ("by", -1)), ("name", ("by", -1), ("by", 0))
>>> balance = ("sum", (above, left))
>>> [show_formula(balance), show_at(balance, 1, 3), read_at("sum(b3, a4)", 1, 3) == balance]
['sum(.[-1], <1[0])', 'sum(b3, a4)', True]
>>> [show_at(read_at("times(2, $a4)", 1, 3), 4, 0), show_at(("total", ("rows", ("at", 0), None, -1)), 1, 3)]
['times(2, $a1)', 'total($a:$a3)']
>>> [fits(balance, "body"), fits(balance, "foot"), is_linear(balance), is_linear(("most", (above,)))]
[True, False, True, False]
>>> read_formula("case(.[-1] >= 0, $0 head, over(1, 0))")[1:4]
(('name', ('by', 0), ('by', -1)), '>=', ('number', 0))
'''

PART_2 = r'''
>>> from longsheet.edits import copy_columns, exchange, move_column, put_column, set_formula, strike_column
>>> from longsheet.sheets import Sheet
>>> paid, none = (("empty",), ("input",), ("total", ("rows", ("by", 0), None, None))), ("empty",)
>>> balance = (("input",), ("sum", (("name", ("by", 0), ("by", -1)), ("name", ("by", -1), ("by", 0)))), ("name", ("by", 0), ("last", 0)))
>>> sheet = Sheet([paid, balance])
>>> [sheet.inputs(2), sheet.means((1, 0), ("name", ("by", 0), ("by", -1)), 2), sheet.means((1, 2), ("name", ("by", 0), ("last", 0)), 2)]
[[(0, 0), (0, 1), (1, -1)], [(1, -1)], [(1, 1)]]
>>> put_column(sheet, 1, (none, none, none))[2][1]
('sum', (('name', ('by', 0), ('by', -1)), ('name', ('by', -2), ('by', 0))))
>>> [move_column(sheet, 0, 1)[0][1][1][1], strike_column(sheet, 0)[0][1][1][1]]
[('name', ('by', 1), ('by', 0)), ('name', ('lost',), ('by', 0))]
>>> [copy_columns(put_column(sheet, 2, (none, none, none)), 1, 2, 1)[2] == balance, exchange(exchange(sheet, 0, 1), 1, 0) == sheet]
[True, True]
'''

PART_3 = r'''
>>> from longsheet.graph import Web, next_on
>>> from longsheet.parts import parts, way
>>> from longsheet.rings import is_against, least_ring, ring_at, ringed
>>> from longsheet.slopes import is_slope, slope
>>> web = Web(2, [(0, 1, 1, 1), (1, 0, -2, -2)])
>>> [parts(web), way(web, [0, 1]), slope(web, [0, 1]), way(~web, [0, 1]), next_on(web, 4, (1, 3)), least_ring(web)]
[[[0, 1]], 'up', (2, {0: 3, 1: 0}), 'down', [(0, 1)], None]
>>> is_slope(web, [0, 1], (1, {0: 2, 1: 0})), is_slope(web, [0, 1], (1, {0: 1, 1: 0}))
(False, False)
>>> more = Web(2, web.edges() + [(1, 1, 2, 2)])
>>> [way(more, [0, 1]), slope(more, [0, 1]), least_ring(more), len(ring_at(more, 4)), ringed(more, 3)]
['ring', None, 4, 5, []]
>>> up, down = ((1, 0, -2, -2), -2), ((0, 1, 1, 1), 1)
>>> is_against(more, [0, 1], ([((1, 1, 2, 2), 2)], [up, down]))
True
'''

PART_4 = r'''
>>> from longsheet.graph import Web
>>> from longsheet.orders import first_late, is_plan, is_web_order, order_by, plan
>>> from longsheet.sweeps import are_sweeps, fewest_sweeps, needing_row, row_needs, sweeps
>>> web = Web(3, [(0, 0, -1, -1), (1, 0, 2, 2), (1, 1, 1, 1), (2, 1, None, 0)])
>>> plan(web)
[([0], 1, {0: 0}), ([1], -1, {1: 0}), ([2], 0, {2: 0})]
>>> [order_by(plan(web), 2), first_late(web, 2, [(0, 0), (1, 0), (1, 1), (0, 1), (2, 0), (2, 1)]), is_plan(web, plan(web)[::-1])]
[[(0, 0), (0, 1), (1, 1), (1, 0), (2, 0), (2, 1)], 1, False]
>>> [fewest_sweeps(web, "down"), fewest_sweeps(web, "up"), needing_row(web, "up")]
[3, 4, [[0], [1], [2]]]
>>> are_sweeps(web, [(1, {0: 0}), (-1, {1: 0}), (1, {2: 0})])
True
'''

PART_5 = r'''
>>> from longsheet.distances import count_distances, distances, is_distance, steps_for
>>> from longsheet.graph import Web
>>> from longsheet.reach import bar_between, hanging_on, hangs
>>> web = Web(2, [(0, 0, -2, -2), (0, 0, -3, -3), (1, 0, 1, 1)])
>>> [hanging_on(web, 5, (0, 4)), hangs(web, 5, (0, 4), (0, 3)), bar_between(web, 5, (0, 3), (1, 0))]
[[(0, 0), (0, 1), (0, 2)], False, [(0, 0), (0, 1)]]
>>> distances(web, 0, 0)
((-1, 1, [0]), [], (0, 1, []))
>>> distances(web, 1, 0)
((0, 1, [0]), [1], (1, 1, []))
>>> tide = distances(Web(1, [(0, 0, -2, -2)]), 0, 0)
>>> [tide, is_distance(tide, -10 ** 30), count_distances(tide, -7, 7), steps_for(web, 0, 0, -6)]
[((0, 2, [0]), [], (0, 1, [])), True, 3, [((0, 0, -3, -3), -3), ((0, 0, -3, -3), -3)]]
'''

PART_6 = r'''
>>> from longsheet.anew import Live, changed, reached
>>> from longsheet.reckoning import hanging, next_cells, on_rings, order_for, value_at, values
>>> from longsheet.sheets import Sheet
>>> paid = (("empty",), ("input",), ("total", ("rows", ("by", 0), None, None)))
>>> balance = (("input",), ("sum", (("name", ("by", 0), ("by", -1)), ("name", ("by", -1), ("by", 0)))), ("name", ("by", 0), ("last", 0)))
>>> sheet, contents = Sheet([paid, balance]), {(0, 0): 5, (0, 1): -2, (1, -1): 100}
>>> [value_at(sheet, 2, contents, (1, 2)), next_cells(sheet, 2, (1, 1)), hanging(sheet, 2, (1, 0)), on_rings(sheet, 2)]
[103, [(0, 1), (1, 0)], [(0, 0), (1, -1)], []]
>>> values(sheet, 1, {})
{(0, -1): None, (0, 0): None, (0, 1): 0, (1, -1): None, (1, 0): 0, (1, 1): 0}
>>> live = Live(sheet, 2, contents)
>>> [live.put((0, 1), -3), live.worked(), live.value((0, 2)), live.put((0, 1), -3), live.worked()]
[[(0, 1), (0, 2), (1, 1), (1, 2)], [(0, 2), (1, 1), (1, 2)], 2, [], []]
>>> [reached(sheet, 2, (0, 1)), changed(sheet, 2, contents, {(0, 0): 3, (1, -1): 100})]
[[(0, 1), (0, 2), (1, 1), (1, 2)], [(0, 0), (0, 1), (1, 0)]]
'''

PART_7 = r'''
>>> from longsheet.alike import alike_columns, are_alike, parting
>>> from longsheet.far import far_total, far_value
>>> from longsheet.rising import first_values, is_rising, shares
>>> from longsheet.sheets import Sheet
>>> above, left = ("name", ("by", 0), ("by", -1)), ("name", ("by", -1), ("by", 0))
>>> none = ("empty",)
>>> paid, grow = (none, ("input",), none), (("input",), ("sum", (("times", 2, above), left)), none)
>>> running = (none, ("total", ("rows", ("at", 0), None, 0)), none)
>>> sheet = Sheet([paid, grow, running, (none, ("sum", (above, ("name", ("at", 0), ("by", 0)))), none)])
>>> flows = ({1: 1}, {0: [1, 0]})
>>> [is_rising(sheet), first_values(sheet, flows, 3), shares(sheet, 1, 2)]
[True, [[1, 3, 1, 1], [0, 6, 1, 1], [1, 13, 2, 2]], (0, {1: 8}, {(0, 0): 4, (0, 1): 2, (0, 2): 1})]
>>> [far_value(sheet, flows, 1, 2, 10), far_value(sheet, flows, 2, 10 ** 30, 1000), far_total(sheet, flows, 0, 6, 100)]
[3, 1, 4]
>>> [are_alike(sheet, 2, 3), alike_columns(sheet), parting(sheet, 1, 2)]
[False, [[0], [1], [2], [3]], (0, ({1: 1}, {}))]
>>> parting(sheet, 2, 3)
(0, ({3: 1}, {}))
'''

PART_8 = r'''
>>> from longsheet.goals import bar, form_at, is_solution, solutions
>>> from longsheet.sheets import Sheet
>>> from longsheet.whatif import first_with, table, what_if
>>> above = ("name", ("by", 0), ("by", -1))
>>> grow = (("input",), ("sum", (("times", 2, above), ("name", ("by", 1), ("by", 0)))), ("name", ("by", 0), ("last", 0)))
>>> paid = (("empty",), ("input",), ("empty",))
>>> sheet = Sheet([grow, paid])
>>> [form_at(sheet, 2, (0, 2)), bar(sheet, 2, {}, ((0, 2), 6), [(0, -1)])]
[(0, {(0, -1): 4, (1, 0): 2, (1, 1): 1}), 4]
>>> [solutions(sheet, 2, {(1, 1): 2}, ((0, 2), 6), [(0, -1)]), is_solution(sheet, 2, {}, ((0, 2), 6), [(0, -1), (1, 0)], [1, 1])]
[([1], []), True]
>>> [what_if(sheet, 2, {}, (0, 2), [(1, 0), (1, 1)], [[1, 1], [3, None]]), table(sheet, 1, {}, (0, 0), (0, -1), (1, 0), [1, 2], [0, 5]), first_with(sheet, 2, {}, ((0, 2), 12), (0, -1), -9, 9)]
[[3, 6], [[2, 7], [4, 9]], 3]
'''

PART_9 = r'''
>>> from longsheet.charts import read_levels, show_levels, show_rounds
>>> from longsheet.graph import Web
>>> from longsheet.levels import far_level, level_walk, levels, rounds
>>> from longsheet.rates import is_rate_paper, longest_between, rate
>>> web = Web(2, [(0, 0, -2, -2), (1, 0, 0, 0), (1, 1, -3, -3)])
>>> [levels(web, 3), rounds(web, 3), level_walk(web, 3, (1, 2))]
[{(0, 0): 0, (0, 1): 0, (0, 2): 1, (1, 0): 1, (1, 1): 1, (1, 2): 2}, 3, [(1, 2), (0, 2), (0, 0)]]
>>> [rate(web, [0]), rate(web, [1]), far_level(web, 1, 10 ** 30), longest_between(web, [1], 9, (1, 8), (1, 2))]
[(1, 2), (1, 3), 500000000000000000000000000001, 2]
>>> is_rate_paper(web, [0], ([((0, 0, -2, -2), -2)], {0: 0}))
True
>>> [show_levels(web, 2), show_rounds(web, 2), read_levels("0 1\n0 1\n")]
['0 1\n0 1\n', '0:0 0:1\n1:0 1:1\n', [[0, 1], [0, 1]]]
'''

PART_10 = r'''
>>> from longsheet.book import Book
>>> from longsheet.desk import Desk
>>> from longsheet.readers import read_sheet
>>> from longsheet.texts import show_sheet
>>> text = "empty | input | total(.[:])\ninput | sum(.[-1], <1[0]) | . last 0\n"
>>> [len(read_sheet(text)), show_sheet(read_sheet(text)) == text]
[2, True]
>>> desk = Desk(read_sheet(text))
>>> [desk.execute(line) for line in ("rows 2", "value 1 head 100", "value 0 1 -30", "cell 1 foot", "move 0 1", "cell 0 foot", "formula 0 body", "back", "at 1 1")]
['1', '2', '3', '70', '4', '70', 'sum(.[-1], >1[0])', '3', 'sum(b1, a2)']
>>> book = Book(read_sheet(text), rows=1, rings=False)
>>> [book.do_all([("value", (0, 0), 5), ("rows", 3)]), book.contents(), len(book), book.back(), book.contents(), book.rows]
[None, {(0, 0): 5}, 1, (('value', (0, 0), 5), ('rows', 3)), {}, 1]
'''

PART_11 = r'''
>>> from longsheet.back import back, errors_for, nearest, numbers_for, outcomes
>>> from longsheet.chains import chain, leads_once
>>> from longsheet.leading import led_back
>>> from longsheet.sheets import Sheet
>>> from longsheet.spans import Spans
>>> own, left = ("name", ("by", 0), ("by", -1)), ("name", ("by", -1), ("by", 0))
>>> share = (("empty",), ("over", ("number", 12), ("sum", (left, ("number", -3)))), ("top", ("rows", ("by", 0), None, None)))
>>> sheet = Sheet([(("empty",), ("input",), ("empty",)), share])
>>> [chain(sheet, 2, (0, 1), (1, 2)), leads_once(sheet, 2, (0, 1), (1, 0))]
[[(1, 2), (1, 1), (0, 1)], False]
>>> [numbers_for(sheet, 2, {}, (0, 1), (1, 1), 4).pairs(), errors_for(sheet, 2, {}, (0, 1), (1, 2))["#zero"].pairs()]
[[(6, 6)], [(3, 3)]]
>>> [nearest(sheet, 1, {}, (0, 0), (1, 0), 1), [some.pairs() for some in outcomes(sheet, 1, {}, (0, 0), (1, 0), [12, 0, "#zero"])]]
[10, [[(4, 4)], [(16, 1000000000000)], [(3, 3)], [(-1000000000000, 2), (5, 15)]]]
>>> led_back(("times", 3, left), 0, 0, [[None]], (Spans([(5, 12)]), True, ()))[0].pairs()
[(2, 4)]
'''

PART_12 = r'''
>>> from longsheet.book import Book
>>> from longsheet.classes import bands, class_entries
>>> from longsheet.safe import outcome, safe_order, stuck
>>> from longsheet.sheets import Sheet
>>> from longsheet.sure import is_ready, zero_entry
>>> from longsheet.wards import Ward
>>> own, left = ("name", ("at", 0), ("by", 0)), ("name", ("by", -1), ("by", 0))
>>> given = (("empty",), ("input",), ("empty",))
>>> sheet = Sheet([given, (("empty",), ("over", ("number", 12), ("sum", (left, ("number", -3)))), ("empty",))])
>>> large = ("asks", ("over", ("number", 12), ("sum", (own, ("number", -3)))), ">", 2)
>>> other = ("asks", own, "<>", 3)
>>> bands([large])
[(True, [(-1000000000000, 2), (8, 1000000000000)]), (False, [(3, 3)]), (False, [(4, 7)])]
>>> [class_entries(sheet, [large]), safe_order(sheet, [large, other]), outcome([large, other], [0, 1], {0: 3}), stuck(sheet, [large])]
[[{0: 0}, {0: 3}, {0: 4}], [1, 0], ('broken', 0), ([0], {0: {0: 3}})]
>>> [is_ready(sheet, 1), zero_entry(sheet, [], 1), zero_entry(sheet, [other], 1)]
[True, {0: 3}, None]
>>> ward = Ward(Book(sheet, rows=2), [large, other])
>>> [ward.order(), ward.do(("value", (0, 1), 5)), ward.refusals(("value", (0, 0), 3)), ward.refusals(("value", (0, 0), 8))]
[[1, 0], None, [(0, 1)], [(0, 0)]]
>>> [ward.do(("put", 0, given)), ward.checks()[1], ward.back()[0], ward.checks()[1] == other]
[None, ('asks', ('name', ('at', 1), ('by', 0)), '<>', 3), 'put', True]
'''


class Examples(unittest.TestCase):
    def check(self, text):
        test = doctest.DocTestParser().get_doctest(text, {}, "example", "DOC", 0)
        told = []
        result = doctest.DocTestRunner(verbose=False).run(test, out=told.append)
        self.assertGreater(result.attempted, 0)
        self.assertEqual(result.failed, 0, "".join(told))

    def test_part_1(self):
        self.check(PART_1)

    def test_part_2(self):
        self.check(PART_2)

    def test_part_3(self):
        self.check(PART_3)

    def test_part_4(self):
        self.check(PART_4)

    def test_part_5(self):
        self.check(PART_5)

    def test_part_6(self):
        self.check(PART_6)

    def test_part_7(self):
        self.check(PART_7)

    def test_part_8(self):
        self.check(PART_8)

    def test_part_9(self):
        self.check(PART_9)

    def test_part_10(self):
        self.check(PART_10)

    def test_part_11(self):
        self.check(PART_11)

    def test_part_12(self):
        self.check(PART_12)

    def test_readme(self):
        blocks = [block for block in README.read_text(encoding="utf-8").split("```") if ">>>" in block]
        self.assertEqual(len(blocks), 1)
        self.check(blocks[0])


if __name__ == "__main__":
    unittest.main()
