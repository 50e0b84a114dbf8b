"""[92] alike: columns that have the same values in all rows at all flows, and where others part."""

import unittest

from longsheet.alike import alike_columns, are_alike, is_parting, parting, plain_column
from longsheet.errors import NoPlan, NotLinear
from longsheet.far import far_total, far_value
from longsheet.rising import first_values, is_flows, shares
from longsheet.sheets import Sheet
from tests.test_rising import bodies
from tests.things import NONE, Draw, nested, some_values


class Alike(unittest.TestCase):
    def test_made_another_way(self):
        for texts in (("sum(1, $2[0])", "sum($2[0], 1)"), ("$2[-1]", "times(1, $2[-1])"), ("$2[-2]", ">1[-2]"), 
                      ("total($2[-2:0])", "sum($2[0], total($2[-2:-1]))"), ("total($2[:0])", "sum(total($2[:-1]), $2[0])"),
                      ("times(2, $2[0])", "sum($2[0], $2[0])"), ("3", "sum(1, times(2, 1))"), ("empty", "0"),
                      ("empty", "times(0, $2[0])"),
                      ("sum(5, $0 head)", "sum($0 head, times(-1, -5))"), ("total($2[:-1])", "total($2[:-1])")):
            sheet = bodies(texts[0], texts[1], "input")
            self.assertIs(are_alike(sheet, 0, 1), True, texts)
            self.assertIsNone(parting(sheet, 1, 0), texts)
            self.assertEqual(alike_columns(sheet)[0][:2], [0, 1])

    def test_own_heads(self):
        # The same text, but each has a head of its own in the row ahead of the first one.
        self.assertEqual(parting(bodies("sum(.[-1], $2[0])", "sum(.[-1], $2[0])", "input"), 0, 1), (0, ({0: 1}, {})))

    def test_a_running_total_by_two_ways(self):
        # The head goes in where the row ahead is named, and is taken out again.
        sheet = bodies("input", "total($0[:0])", "sum(.[-1], $0[0])", "sum($2[0], times(-1, $2 head))")
        self.assertEqual([parting(sheet, 1, 2), parting(sheet, 1, 3)], [(0, ({2: 1}, {})), None])
        sheet = bodies("input", "total($0[:0])", "sum(total($0[:-1]), $0[0])", "sum(total($0[:-3]), total($0[-2:0]))")
        self.assertEqual(alike_columns(sheet), [[0], [1, 2, 3]])

    def test_but_for_a_number_or_a_distance(self):
        for one, other, told in (
                ("3", "4", (0, ({}, {}))), ("times(2, $2[0])", "times(3, $2[0])", (0, ({}, {2: [1]}))),
                ("$2[-1]", "$2[0]", (0, ({2: 1}, {}))),
                ("total($2[:-1])", "total($2[-3:-1])", (4, ({}, {2: [1, 0, 0, 0, 0]}))),
                ("$0 head", "$1 head", (0, ({0: 1}, {}))),
                ("total($2[-2:0])", "total($2[-1:0])", (2, ({}, {2: [1, 0, 0]}))),
                ("sum($2[-2], $2[-1])", "sum($2[-3], $2[-1])", (1, ({2: 1}, {}))),
                ("total($2[:-2])", "total($2[:-3])", (2, ({}, {2: [1, 0, 0]}))),
                ("sum(1, $0 head)", "sum(2, times(0, $0 head))", (0, ({}, {})))):
            sheet = bodies(one, other, "input")
            self.assertEqual(parting(sheet, 0, 1), told, (one, other))
            self.assertEqual(parting(sheet, 1, 0), told)
            self.assertIs(are_alike(sheet, 0, 1), False)
            self.assertIs(is_parting(sheet, 0, 1, told), True)

    def test_what_both_have_parts_nothing(self):
        for one, other, told in (("sum($0 head, $1 head)", "sum($0 head, $2 head)", (0, ({1: 1}, {}))),
                                 ("sum($0 head, $3[0])", "sum($0 head, times(2, $3[0]))", (0, ({}, {3: [1]}))),
                                 ("sum($2[0], $3[0])", "sum($2[0], $3[0], $3[0])", (0, ({}, {3: [1]}))),
                                 ("sum(1, $0 head, $2[-1])", "sum(1, $0 head, times(3, $2[-1]))", (0, ({2: 1}, {}))),
                                 ("total($3[-1:0])", "sum($3[0], times(2, $3[-1]), times(-1, $3 head))", (0, ({3: 1}, {})))):
            sheet = bodies(one, other, "input", "input")
            self.assertEqual(parting(sheet, 0, 1), told)
            self.assertIs(is_parting(sheet, 0, 1, told), True)

    def test_parting_far_down(self):
        # What a chain of columns hands on, three rows each, comes late; what the head was takes nine rows more.
        sheet = bodies("input", "total($0[-3:-3])", "total($1[-3:-3])", "total($2[-3:-3])")
        self.assertEqual(parting(sheet, 2, 3), (6, ({}, {0: [1] + [0] * 6})))
        self.assertEqual(parting(sheet, 3, 0), (0, ({}, {0: [1]})))
        sheet = bodies("sum(.[-3], times(-1, total(.[-3:-3])))", "total($0[-3:-3])", "total($1[-3:-3])", "empty")
        self.assertEqual([parting(sheet, 2, 3), parting(sheet, 1, 3), parting(sheet, 0, 3)],
                         [(8, ({0: 1}, {})), (5, ({0: 1}, {})), (2, ({0: 1}, {}))])
        sheet = bodies("1", "total($0[-3:-3])", "total($1[-3:-3])", "total($2[-3:-3])")
        self.assertEqual([parting(sheet, 3, 2), parting(sheet, 2, 1)], [(6, ({}, {})), (3, ({}, {}))])

    def test_drawn(self):
        draw = Draw(920)
        parted = alike = 0
        for _ in range(60):
            sheet = draw.rising_sheet()
            one, other = draw.number(0, len(sheet) - 1), draw.number(0, len(sheet) - 1)
            told = parting(sheet, one, other)
            self.assertIs(are_alike(sheet, one, other), told is None)
            if told is None:
                alike += one != other
                flows = draw.flows(sheet)
                for line in first_values(sheet, flows, 60):
                    self.assertEqual(line[one], line[other])
                continue
            parted += 1
            row, (heads, lists) = told
            self.assertIs(is_flows(sheet, told[1]), True)
            self.assertIs(is_parting(sheet, one, other, told), True)
            self.assertTrue(len(heads) + len(lists) <= 1 and set(heads.values()) <= {1})
            for numbers in lists.values():
                self.assertEqual(sorted(numbers), [0] * row + [1])
            for less in range(row):
                self.assertEqual(shares(sheet, one, less), shares(sheet, other, less))
        self.assertTrue(parted > 20 and alike > 0)

    def test_by_flows_of_its_own(self):
        draw = Draw(921)
        for _ in range(30):
            columns = draw.rising_sheet(2).columns()
            many = len(columns)
            more = [(NONE, ("times", 1, ("sum", (("name", ("at", draw.number(0, many - 1)), ("by", 0)), NONE))),
                     NONE) for _ in range(2)]
            sheet = Sheet(columns + more)
            groups = alike_columns(sheet)
            self.assertEqual(sorted(column for group in groups for column in group), list(range(len(sheet))))
            self.assertEqual([group[0] for group in groups], sorted(group[0] for group in groups))
            for group in groups:
                self.assertEqual(group, sorted(group))
                for column in range(len(sheet)):
                    self.assertIs(are_alike(sheet, group[0], column), column in group)
                flows = draw.flows(sheet, 4)
                self.assertEqual(len({far_value(sheet, flows, column, 10 ** 30, 10 ** 9) for column in group}), 1)
                self.assertEqual(len({far_total(sheet, flows, column, 10 ** 29, 10 ** 9) for column in group}), 1)
            self.assertTrue(any(len(group) > 1 for group in groups))

    def test_plain_column(self):
        sheet = bodies("input", "sum($0[0], times(-1, $0[0]))", "empty", "total($1[:0])")
        self.assertEqual([plain_column(sheet, column) for column in range(4)], [False, True, True, True])
        self.assertEqual(alike_columns(sheet), [[0], [1, 2, 3]])
        sheet = bodies("1", "total($0[-3:-3])", "total($1[-3:-3])", ".[-1]")
        self.assertEqual([plain_column(sheet, column) for column in range(4)], [False] * 4)
        self.assertEqual(alike_columns(Sheet([])), [])


class ByShares(unittest.TestCase):
    """The answers against the shares of [90], row by row, through all rows."""

    def check(self, sheet):
        told = [[shares(sheet, column, row) for row in range(61)] for column in range(len(sheet))]
        groups = []
        for column, one in enumerate(told):
            alike = [group for group in groups if told[group[0]] == one]
            if alike:
                alike[0].append(column)
            else:
                groups.append([column])
            self.assertIs(plain_column(sheet, column), all(share == (0, {}, {}) for share in one))
            for to, other in enumerate(told):
                unlike = [row for row in range(61) if one[row] != other[row]]
                found = parting(sheet, column, to)
                self.assertIs(are_alike(sheet, column, to), not unlike, sheet.columns())
                self.assertEqual(found if found is None else found[0], unlike[0] if unlike else None)
                if unlike:
                    self.check_flows(sheet, column, to, found)
        self.assertEqual(alike_columns(sheet), groups)
        return groups

    def check_flows(self, sheet, one, other, told):
        row, (heads, lists) = told
        self.assertIs(is_flows(sheet, told[1]), True)
        self.assertIs(is_parting(sheet, one, other, told), True)
        last = first_values(sheet, told[1], row + 1)[-1]
        self.assertNotEqual(last[one], last[other])
        self.assertIn((list(heads.values()), list(lists.values())), [([], []), ([1], []), ([], [[1] + [0] * row])])

    def test_drawn(self):
        draw = Draw(922)
        for _ in range(30):
            self.check(draw.rising_sheet())

    def test_drawn_with_columns_made_another_way(self):
        draw = Draw(923)
        for _ in range(25):
            columns = draw.rising_sheet(2).columns()
            many = len(columns)
            one, other = [("at", draw.number(0, many - 1)) for _ in range(2)]
            d = draw.number(-3, -1)
            upper, sums = [("sum", (("total", ("rows", one, None, 0)), ("times", -1, ("total", ("rows", one, None, d))))),
                           ("total", ("rows", one, d + 1, 0))], ("total", ("rows", other, d, d))
            more = [("sum", (upper[0], sums)), ("sum", (sums, upper[1]))]
            groups = self.check(Sheet(columns + [(NONE, body, NONE) for body in more]))
            self.assertTrue(any(many in group and many + 1 in group for group in groups))

    def test_delays(self):
        for texts in ((".[-3]", "total($0[-3:-3])", "total($1[-3:-3])", "total($2[-3:-3])"),
                      ("input", "total($0[-3:-3])", "$1[-3]", "sum(.[-3], $2[-3])"),
                      ("input", "sum(.[-1], .[-2], $0[0])", "sum(.[-2], .[-1], $0[0])", "sum($1[-1], $1[-2], $0[0])"),
                      ("$1[-3]", "$2[-3]", "$3[-3]", ".[-3]"), ("$1[-3]", "$2[-3]", "$3[-2]", "$0[-3]"),
                      ("sum(.[-3], 1)", "sum(.[-3], 1)", "total(.[-3:-1])", "sum(total(.[-3:-1]), times(0, $0[0]))")):
            self.check(bodies(*texts))
        # The first row that is not 0 comes late: the sum is 0 ahead of it.
        self.assertIs(plain_column(bodies(".[-3]", "total($0[-3:-3])", "total($1[-3:-3])", "total($2[-3:-3])"), 3), False)

    def test_no_inputs_no_heads_and_numbers_alone(self):
        self.assertEqual(self.check(bodies("1", "sum(2, -1)", "sum(.[-1], 0)", "total($2[:0])")), [[0, 1], [2], [3]])
        self.assertEqual(self.check(bodies("0", "empty", "times(0, $0[-1])", "total(.[-1:-2])")), [[0, 1, 2, 3]])
        self.assertEqual(self.check(bodies("1", "total($0[-1:0])", "2", "input")), [[0], [1], [2], [3]])
        self.assertEqual(parting(bodies("1", "total($0[-3:0])", "total($0[:0])"), 1, 2), (4, ({}, {})))

    def test_a_hundred_times(self):
        left2, left1, above = [("name", ("by", by), ("by", row)) for by, row in ((-2, 0), (-1, 0), (0, -1))]
        sheet = Sheet([
            (("number", 3), ("input",), NONE),
            (("number", 3), ("sum", (("times", 2, above), left1, ("total", ("rows", ("by", -1), None, 0)))), NONE),
            (("number", 3), ("sum", (("times", 2, above), left2, ("total", ("rows", ("by", -2), None, 0)))), NONE),
            (("number", 3), ("sum", (("name", ("at", 1), ("by", -1)), ("name", ("at", 2), ("by", -1)),
                                     ("total", ("rows", ("at", 1), None, -1)), ("total", ("rows", ("at", 2), None, -1)))),
             NONE),
        ])
        self.assertEqual(self.check(sheet), [[0], [1], [2], [3]])
        for _ in range(100):
            self.assertEqual(alike_columns(sheet), [[0], [1], [2], [3]])
            self.assertIs(are_alike(sheet, 1, 1), True)
            self.assertIs(plain_column(sheet, 3), False)


class IsParting(unittest.TestCase):
    SHEET = bodies("input", "$0[-1]", "3", "$2 head")

    def test_told(self):
        for one, other, thing in ((0, 1, (0, ({0: 1}, {}))), (0, 1, (5, ({}, {0: [1, 2]}))),
                                  (0, 1, (60, ({}, {0: list(range(61))}))), (2, 3, (0, ({}, {}))),
                                  (2, 3, (60, ({2: 4}, {0: [7]}))), (1, 0, (0, ({}, {0: [1]})))):
            self.assertIs(is_parting(self.SHEET, one, other, thing), True, thing)
        for one, other, thing in ((0, 1, (0, ({}, {}))), (0, 1, (5, ({}, {0: [4]}))), (2, 3, (0, ({2: 3}, {}))),
                                  (0, 0, (0, ({0: 1}, {}))), (2, 3, (61, ({}, {}))),
                                  (2, 3, (-1, ({}, {}))), (2, 3, (False, ({}, {}))), (2, 3, (None, ({}, {}))),
                                  (2, 3, [0, ({}, {})]), (2, 3, (0, {})),
                                  (2, 3, (0, ({}, {2: [1]}))), (2, 3, (0, ({4: 1}, {}))), (2, 3, (0, ({}, {0: []}))),
                                  (2, 3, (0, ({}, {}), 0)), (2, 3, None)):
            self.assertIs(is_parting(self.SHEET, one, other, thing), False, thing)

    def test_any_value(self):
        for thing in some_values() + [nested(30)]:
            self.assertIs(is_parting(self.SHEET, 2, 3, thing), False, thing)


class Errors(unittest.TestCase):
    def test_in_their_order(self):
        for sheet, error, field in ((bodies("1", ".[1]", "most()"), NotLinear, (1, 0)), (bodies(".[0]", "1"), NoPlan, 1),
                                    (bodies("$1[0]", "$0[0]"), NoPlan, 1),
                                    (bodies(".[0]", ".[-4]"), NotLinear, (1, 0)),
                                    (bodies(".[0]", ".[-4]", "1", "1", "1"), NotLinear, (4, 0))):
            for asked in (lambda: are_alike(sheet, 0, 1), lambda: are_alike(sheet, 0, 0), lambda: parting(sheet, 0, 1),
                          lambda: is_parting(sheet, 0, 1, None),
                          lambda: is_parting(sheet, 0, 1, (0, ({}, {}))), lambda: alike_columns(sheet),
                          lambda: plain_column(sheet, 0)):
                with self.assertRaises(error) as caught:
                    asked()
                self.assertEqual(list(vars(caught.exception).values()), [field])


if __name__ == "__main__":
    unittest.main()
