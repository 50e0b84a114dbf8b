"""[152] classes: entries that are alike by checks."""

import itertools
import unittest

from longsheet.asks import column_asked, input_columns, is_entry, test_answer
from longsheet.checks import check_answer, tests_of
from longsheet.classes import are_like, bands, class_entries, class_entry, entry_apart
from longsheet.sheets import Sheet
from longsheet.spans import Spans
from tests.things import FAR, NONE, Draw

OWN, NEXT = ("name", ("at", 0), ("by", 0)), ("name", ("at", 1), ("by", 0))
GIVEN = (NONE, ("input",), NONE)


def of_column(checks, column):
    """The different tests of checks that ask a column."""
    found = []
    for check in checks:
        found += [test for test in tests_of(check) if column_asked(test) == column and test not in found]
    return found


def answers(tests, value):
    return [test_answer(test, value) for test in tests]


def near_values(tests):
    """None, and numbers near the ends of the bands."""
    found = {-FAR, FAR} | set(range(-20, 21))
    for _, pairs in bands(tests):
        for pair in pairs:
            for end in pair:
                found |= {number for number in range(end - 2, end + 3) if -FAR <= number <= FAR}
    return [None] + sorted(found)


class Bands(unittest.TestCase):
    def check(self, tests):
        told = bands(tests)
        self.assertEqual([empty for empty, _ in told], [True] + [False] * (len(told) - 1))
        self.assertEqual([pairs[0][0] for _, pairs in told[1:]], sorted(pairs[0][0] for _, pairs in told[1:]))
        whole = Spans([])
        for _, pairs in told:
            self.assertEqual(Spans(pairs).pairs(), pairs)
            self.assertEqual(whole & Spans(pairs), Spans([]))
            whole = whole | Spans(pairs)
        self.assertEqual(whole, Spans([(-FAR, FAR)]))
        known = {}
        for value in near_values(tests):
            at = [at for at, (empty, pairs) in enumerate(told) if (empty if value is None else value in Spans(pairs))]
            self.assertEqual(len(at), 1)
            # One band has one row of answers, and no two bands have the same one.
            self.assertEqual(known.setdefault(at[0], answers(tests, value)), answers(tests, value))
        self.assertEqual(len({tuple(told) for told in known.values()}), len(told))
        return told

    def test_told(self):
        five, high = ("asks", OWN, "=", 5), ("asks", OWN, ">", 2)
        for tests, told in (([], [(True, [(-FAR, FAR)])]), ([("empty", 0)], [(True, []), (False, [(-FAR, FAR)])]),
                            ([five], [(True, [(-FAR, 4), (6, FAR)]), (False, [(5, 5)])]),
                            ([five, high], [(True, [(-FAR, 2)]), (False, [(3, 4), (6, FAR)]), (False, [(5, 5)])]),
                            ([five, ("empty", 0)], [(True, []), (False, [(-FAR, 4), (6, FAR)]), (False, [(5, 5)])]),
                            ([five, five], [(True, [(-FAR, 4), (6, FAR)]), (False, [(5, 5)])]),
                            ([("asks", OWN, "<", -3), high], [(True, [(-3, 2)]), (False, [(-FAR, -4)]), (False, [(3, FAR)])]),
                            ([("asks", OWN, "<>", 0)], [(True, [(0, 0)]), (False, [(-FAR, -1), (1, FAR)])]),
                            ([("asks", OWN, ">=", FAR)], [(True, [(-FAR, FAR - 1)]), (False, [(FAR, FAR)])]),
                            ([("asks", OWN, "<=", FAR)], [(True, [(-FAR, FAR)])]),
                            ([("asks", ("over", OWN, NONE), "=", 0)], [(True, [(-FAR, FAR)])])):
            self.assertEqual(bands(tests), told, tests)
            self.check(tests)
            bands(tests)[0][1].append(None)
            self.assertEqual(bands(tests), told)

    def test_drawn(self):
        draw = Draw(1520)
        many = {}
        for _ in range(300):
            tests = [draw.test(0, draw.one([9, 30])) for _ in range(draw.number(0, 4))]
            told = self.check(tests)
            many[len(told)] = many.get(len(told), 0) + 1
        self.assertTrue(max(many) >= 5, many)


class Classes(unittest.TestCase):
    def first_values(self, tests):
        return [Spans(pairs).least() for _, pairs in bands(tests)]

    def test_none_one_and_two_input_columns(self):
        small, five = ("asks", OWN, "<", -3), ("asks", NEXT, "=", 5)
        self.assertEqual(class_entries(Sheet([]), []), [{}])
        self.assertEqual(class_entries(Sheet([(NONE, NONE, NONE)]), [("all", ())]), [{}])
        self.assertEqual(class_entries(Sheet([GIVEN]), []), [{0: 0}])
        self.assertEqual(class_entries(Sheet([GIVEN]), [small, ("empty", 0)]), [{0: None}, {0: -4}, {0: 0}])
        self.assertEqual(class_entries(Sheet([GIVEN, GIVEN]), [five, ("not", small)]),
                         [{0: 0, 1: 0}, {0: 0, 1: 5}, {0: -4, 1: 0}, {0: -4, 1: 5}])
        self.assertEqual(class_entries(Sheet([GIVEN, (NONE, NONE, NONE), GIVEN]), [("empty", 2), small]),
                         [{0: 0, 2: None}, {0: 0, 2: 0}, {0: -4, 2: None}, {0: -4, 2: 0}])

    def test_first_values(self):
        self.assertEqual(class_entries(Sheet([GIVEN]), [("asks", OWN, "<>", 0)]), [{0: 0}, {0: 1}])
        self.assertEqual(class_entries(Sheet([GIVEN]), [("asks", ("most", (OWN, ("number", -4))), "<>", -4)]), [{0: -4}, {0: 0}])
        test = ("asks", ("over", ("number", 60), OWN), ">", 0)
        self.assertEqual(class_entries(Sheet([GIVEN]), [test]), [{0: 0}, {0: -1}, {0: 1}])

    def test_drawn(self):
        draw = Draw(1521)
        for _ in range(150):
            sheet = draw.input_sheet()
            columns = input_columns(sheet)
            checks = draw.checks(columns)
            told = class_entries(sheet, checks)
            values = [self.first_values(of_column(checks, column)) for column in columns]
            self.assertEqual(told, [dict(zip(columns, some)) for some in itertools.product(*values)])
            for entry in told:
                self.assertEqual(list(entry), columns)
                self.assertIs(is_entry(sheet, entry), True)
                self.assertEqual(class_entry(sheet, checks, entry), entry)
            for _ in range(10):
                entry, other = [{column: draw.one(near_values(of_column(checks, column))) for column in columns} for _ in range(2)]
                found = class_entry(sheet, checks, entry)
                self.assertIn(found, told)
                self.assertEqual([check_answer(check, found) for check in checks], [check_answer(check, entry) for check in checks])
                self.assertIs(are_like(sheet, checks, entry, found), True)
                alike = all(answers(of_column(checks, column), entry[column]) == answers(of_column(checks, column), other[column])
                            for column in columns)
                self.assertIs(are_like(sheet, checks, entry, other), alike)
                self.assertIs(class_entry(sheet, checks, other) == found, alike)

    def test_told_things_may_be_changed(self):
        sheet, checks = Sheet([GIVEN]), [("empty", 0)]
        told = class_entries(sheet, checks)
        told[0][0] = 9
        class_entry(sheet, checks, {0: 5}).clear()
        self.assertEqual([class_entries(sheet, checks), class_entry(sheet, checks, {0: 5})], [[{0: None}, {0: 0}], {0: 0}])


class Apart(unittest.TestCase):
    def test_entry_apart(self):
        sheet = Sheet([GIVEN, GIVEN])
        for one, other, told in (
                (("asks", OWN, "=", 5), ("asks", OWN, "=", 5), None), (("asks", OWN, "<", 6), ("asks", OWN, "<=", 5), None),
                (("asks", OWN, "<", 5), ("asks", OWN, "<=", 5), {0: 5, 1: 0}), (("empty", 0), ("any", ()), {0: None, 1: 0}),
                (("empty", 1), ("not", ("all", ())), {0: 0, 1: None}), (("all", ()), ("not", ("any", ())), None),
                (("asks", NEXT, "<>", 0), ("not", ("asks", NEXT, "=", 0)), None),
                (("asks", ("over", ("number", 1), OWN), "=", 0), ("not", ("asks", ("over", ("number", 1), OWN), "<>", 0)), None),
                (("asks", ("over", ("number", 1), OWN), "=", 9), ("any", ()), {0: 0, 1: 0}),
                (("asks", ("times", 2, OWN), "=", 10), ("asks", OWN, "=", 5), None),
                (("asks", OWN, ">=", FAR), ("asks", OWN, ">", FAR), {0: FAR, 1: 0})):
            self.assertEqual(entry_apart(sheet, one, other), told, (one, other))
            self.assertEqual(entry_apart(sheet, other, one), told)

    def test_drawn(self):
        draw = Draw(1522)
        apart = 0
        for _ in range(200):
            sheet = draw.input_sheet()
            columns = input_columns(sheet)
            tests = [draw.test(column) for column in columns for _ in range(2)]
            one, other = draw.check(tests), draw.check(tests)
            told = entry_apart(sheet, one, other)
            if told is not None:
                self.assertIs(is_entry(sheet, told), True)
                self.assertNotEqual(check_answer(one, told), check_answer(other, told))
                apart += 1
                continue
            for _ in range(30):
                entry = {column: draw.one(near_values(of_column([one, other], column))) for column in columns}
                self.assertEqual(check_answer(one, entry), check_answer(other, entry))
        self.assertTrue(50 < apart < 180, apart)


if __name__ == "__main__":
    unittest.main()
