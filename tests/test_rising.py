"""[90] rising: sheets whose values run down the rows, their first values, and the shares of inputs in them."""

import unittest

from longsheet.errors import NoPlan, NotLinear
from longsheet.notation import read_formula
from longsheet.reckoning import values
from longsheet.rising import first_values, is_flows, is_rising, shares
from longsheet.sheets import Sheet
from longsheet.values import plain
from tests.test_reckoning import sheet_of
from tests.things import FAR, NONE, Draw, nested, some_values

INPUT = (NONE, ("input",), NONE)


def bodies(*texts):
    return Sheet([(NONE, read_formula(text), NONE) for text in texts])


def contents_of(sheet, flows, rows):
    """Contents that have what flows tell, for a sheet with all heads as inputs."""
    heads, lists = flows
    found = {(column, -1): number for column, number in heads.items()}
    for column, numbers in lists.items():
        for row in range(rows):
            found[(column, row)] = numbers[row % len(numbers)]
    return found


def with_input_heads(sheet):
    return Sheet([(("input",), body, foot) for _, body, foot in sheet.columns()])


class IsRising(unittest.TestCase):
    def check(self, rises, *texts):
        sheet = bodies(*texts)
        self.assertIs(is_rising(sheet), rises, texts)
        if not rises:
            for asked in (lambda: first_values(sheet, ({}, {}), 2), lambda: shares(sheet, 0, 0)):
                self.assertRaises((NotLinear, NoPlan), asked)
        else:
            self.assertEqual(first_values(sheet, ({}, {}), 0), [])

    def test_told(self):
        for texts in (("input",), ("5",), ("empty",), ("sum(.[-1], times(-2, .[-3]), 1)",), ("total(.[:-1])",),
                      ("total(.[-3:-1])",),
                      ("$0 head",), (">1[0]", "input"), (">1[0]", "<1[-1]"), ("total($1[:0])", "input"),
                      ("total($1[-3:0])", "input"),
                      ("total(.[-1:-2])",), ("total(.[2:0])",), ("times(0, .[-1])",), ("1", "2", "3", "4"), ("sum()",)):
            self.check(True, *texts)
        self.assertIs(is_rising(Sheet([])), True)

    def test_one_formula_otherwise(self):
        for text in (".[1]", "sum(1, .[5])", ".[-4]", "total(.[-4:-1])", "total(.[:-4])", "total(.[-4:-4])", "total(.[-1:1])",
                     "total(.[-1:])",
                     "total(.[:])", "total(.[:1])", "?[-1]", "? head", "total(?[:-1])", "$2[-1]", "<2[-1]", ">1[-1]", "$2 head",
                     "total($5[:-1])",
                     "most(.[-1])", "least()", "over(.[-1], 2)", "many(.[:-1])", "top(.[:-1])", "low(.[:-1])",
                     "case(1 = 1, 2, 3)",
                     "times(2, sum(1, most(2)))", ".[0]", "total(.[:0])", "total(.[-1:0])", "sum(.[-1], .[0])"):
            self.check(False, "input", text)

    def test_ranges_of_other_columns(self):
        for text in ("total($0[-1:1])", "total($0[:1])", "total($0[:])", "total($0[0:])", "total($0[1:1])", "total($0[-4:0])",
                     "total($0[-5:-4])",
                     "total($0[:-4])", "$0[1]", "$0[-4]", "$0[5]"):
            sheet = bodies("input", text)
            self.assertIs(is_rising(sheet), False, text)
            with self.assertRaises(NotLinear) as caught:
                first_values(sheet, ({}, {}), 1)
            self.assertEqual(caught.exception.address, (1, 0))
        for text in ("total($0[-3:0])", "total($0[:0])", "total($0[0:0])", "total($0[:-3])", "total($0[-3:-3])", "$0[0]",
                     "$0[-3]"):
            self.assertIs(is_rising(bodies("input", text)), True, text)

    def test_rings_in_a_row(self):
        self.check(False, ">1[0]", "<1[0]")
        self.check(False, ">1[0]", "total($0[:0])")
        self.check(False, ">1[0]", ">1[0]", "sum($0[0], 1)")
        self.check(True, ">1[0]", ">1[0]", "sum($0[-1], 1)")

    def test_heads_and_feet_as_they_like(self):
        sheet = sheet_of("$0 head | .[-1] | most(. foot)", "over(1, 0) | sum(<1[0], . head) | ?  foot".replace("  ", " "))
        self.assertIs(is_rising(sheet), True)
        self.assertEqual(first_values(sheet, ({0: 3, 1: 4}, {}), 2), [[3, 7], [3, 7]])

    def test_five_columns(self):
        self.assertIs(is_rising(bodies("1", "2", "3", "4", "5")), False)
        self.assertIs(is_rising(bodies("1", "2", "3", "4")), True)


class Errors(unittest.TestCase):
    def check(self, sheet, error, field):
        for asked in (lambda: first_values(sheet, ({}, {}), 0), lambda: first_values(sheet, ({}, {}), 60),
                      lambda: shares(sheet, 0, 0),
                      lambda: shares(sheet, len(sheet) - 1, 60)):
            with self.assertRaises(error) as caught:
                asked()
            self.assertEqual(list(vars(caught.exception).values()), [field])

    def test_in_their_order(self):
        self.check(bodies("1", ".[1]", "most()"), NotLinear, (1, 0))
        self.check(bodies(".[-4]", ".[1]"), NotLinear, (0, 0))
        self.check(bodies("1", "1", "1", "?[0]"), NotLinear, (3, 0))
        self.check(bodies(".[0]"), NoPlan, 1)
        self.check(bodies("$1[0]", "$0[0]"), NoPlan, 1)
        # A formula that is not rising comes ahead of a ring, five columns ahead of both.
        self.check(bodies(".[0]", "many(.[:-1])"), NotLinear, (1, 0))
        self.check(bodies(".[0]", "many(.[:-1])", "1", "1", "1"), NotLinear, (4, 0))
        self.check(bodies("1", "1", "1", "1", "1"), NotLinear, (4, 0))
        self.check(bodies(*["1"] * 8), NotLinear, (4, 0))


class Flows(unittest.TestCase):
    SHEET = Sheet([INPUT, (NONE, ("number", 1), NONE), INPUT])

    def test_is_flows(self):
        for thing in (({}, {}), ({1: 5}, {}), ({0: FAR, 2: -FAR}, {2: [0]}), ({}, {2: [1] * 61, 0: [FAR, -FAR]}),
                      ({2: 0, 0: 0}, {})):
            self.assertIs(is_flows(self.SHEET, thing), True, thing)
        for thing in (({3: 1}, {}), ({-1: 1}, {}), ({0: FAR + 1}, {}), ({0: True}, {}), ({0: None}, {}), ({True: 1}, {}),
                      ({(0, -1): 1}, {}),
                      ({}, {1: [1]}), ({}, {3: [1]}), ({}, {0: []}), ({}, {0: [1] * 62}), ({}, {0: (1,)}), ({}, {0: 1}),
                      ({}, {0: [None]}),
                      ({}, {0: [1, True]}), ({}, {0: [FAR + 1]}), ({}, {False: [1]}), ({}, {0: [1], 1: [1]}), ({},),
                      ({}, {}, {}), [{}, {}],
                      ({}, []), ([], {}), ({}, None), {}, None, ({}, {(0, 0): [1]}), ({"a": 1}, {})):
            self.assertIs(is_flows(self.SHEET, thing), False, thing)
        for thing in some_values() + [nested(30)]:
            self.assertIs(is_flows(self.SHEET, thing), False, thing)

    def test_of_sheets_that_are_not_rising(self):
        self.assertIs(is_flows(bodies("input", ".[5]", "1", "1", "1", "input"), ({5: 1, 1: 2}, {5: [1], 0: [2]})), True)
        self.assertIs(is_flows(Sheet([]), ({}, {})), True)


class FirstValues(unittest.TestCase):
    def test_told(self):
        sheet = bodies("input", "sum(.[-2], $0[0], times(10, $0 head))", "total($1[-1:0])")
        self.assertEqual(first_values(sheet, ({0: 3, 1: 100}, {0: [1, 2, 3]}), 5),
                         [[1, 31, 31], [2, 132, 163], [3, 64, 196], [1, 163, 227], [2, 96, 259]])
        self.assertEqual(first_values(sheet, ({}, {}), 1), [[0, 0, 0]])
        self.assertEqual(first_values(Sheet([]), ({}, {}), 3), [[], [], []])
        self.assertEqual(first_values(bodies("empty", "sum(<1[0], total(<1[:0]))"), ({}, {}), 2), [[0, 0], [0, 0]])

    def test_rows_up_to_heads(self):
        # Two rows and three rows up: the row ahead of the first one is the head, what is above is empty.
        sheet = bodies("sum(.[-2], 1)", "sum(.[-3], 1)", "sum(total(.[:-1]), .[-1], 1)")
        self.assertEqual(first_values(sheet, ({0: 10, 1: 20, 2: 30}, {}), 4),
                         [[1, 1, 31], [11, 1, 63], [2, 21, 158], [12, 2, 411]])

    def test_drawn(self):
        draw = Draw(900)
        for _ in range(120):
            sheet = draw.rising_sheet()
            self.assertIs(is_rising(sheet), True, sheet.columns())
            flows, rows = draw.flows(sheet), draw.number(1, 8)
            self.assertIs(is_flows(sheet, flows), True)
            told = values(with_input_heads(sheet), rows, contents_of(sheet, flows, rows))
            found = first_values(sheet, flows, rows)
            self.assertEqual(found, [[plain(told[(column, row)]) for column in range(len(sheet))] for row in range(rows)],
                             sheet.columns())
            self.assertEqual(first_values(sheet, flows, 60)[:rows], found)


class Shares(unittest.TestCase):
    def test_told(self):
        sheet = bodies("input", "sum(.[-2], $0[0], times(10, $0 head), 7)", "sum($1[0], times(-1, $0[0]), total($0[:-1]))")
        self.assertEqual(shares(sheet, 0, 5), (0, {}, {(0, 5): 1}))
        self.assertEqual(shares(sheet, 1, 0), (7, {0: 10}, {(0, 0): 1}))
        self.assertEqual(shares(sheet, 1, 3), (14, {0: 20, 1: 1}, {(0, 1): 1, (0, 3): 1}))
        self.assertEqual(shares(sheet, 2, 2), (14, {0: 20}, {(0, 0): 2, (0, 1): 1}))
        self.assertEqual(shares(bodies("sum(.[-1], times(-1, .[-1]), 2)"), 0, 7), (2, {}, {}))

    def test_order_of_keys(self):
        sheet = bodies("sum($3[-1], $2[0], $0 head, $3 head)", "sum($1 head, $3[0])", "input", "input")
        constant, heads, inputs = shares(sheet, 0, 2)
        self.assertEqual([list(heads), list(inputs)], [[0, 3], [(2, 2), (3, 1)]])

    def test_drawn(self):
        draw = Draw(901)
        for _ in range(100):
            sheet, flows = draw.rising_sheet(), draw.flows(draw.rising_sheet(1))
            flows = draw.flows(sheet)
            found = first_values(sheet, flows, 61)
            heads, lists = flows
            for row in (0, 1, 2, 3, draw.number(4, 59), 60):
                for column in range(len(sheet)):
                    constant, head_weights, input_weights = shares(sheet, column, row)
                    total = constant + sum(weight * heads.get(at, 0) for at, weight in head_weights.items())
                    for (at, here), weight in input_weights.items():
                        numbers = lists.get(at, [0])
                        total += weight * numbers[here % len(numbers)]
                        self.assertTrue(here <= row and sheet[at][1] == ("input",))
                    self.assertEqual(found[row][column], total)
                    self.assertNotIn(0, list(head_weights.values()) + list(input_weights.values()))
                    self.assertEqual([list(head_weights), list(input_weights)], [sorted(head_weights), sorted(input_weights)])

    def test_doubled_to_row_sixty(self):
        self.assertEqual(shares(bodies("input", "sum(times(2, .[-1]), $0[0])"), 1, 60)[1:],
                         ({1: 2 ** 61}, {(0, row): 2 ** (60 - row) for row in range(61)}))


if __name__ == "__main__":
    unittest.main()
