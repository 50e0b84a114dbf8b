"""[155] sure: which entries checks keep, and columns whose divisors are never 0 at these."""

import itertools
import unittest

from longsheet.asks import input_columns, is_entry
from longsheet.checks import check_answer
from longsheet.classes import class_entries
from longsheet.errors import NotReady
from longsheet.formulas import reads
from longsheet.names import column_of
from longsheet.notation import read_formula
from longsheet.sheets import Sheet
from longsheet.sure import covers, divisors, entry_between, is_kept, is_ready, needless, protecting, zero_entry
from longsheet.working import worked_out
from tests.test_reckoning import sheet_of
from tests.test_safe import ONE, OWN, bars, drawn_checks, errs_at
from tests.things import NONE, Draw

ALWAYS, NEVER = ("all", ()), ("any", ())


def rows_of(*bodies):
    """A sheet of bodies alone."""
    return sheet_of(*[f"empty | {body} | empty" for body in bodies])


def plain_ready(sheet, column, ahead=()):
    body = sheet[column][1]
    if body == ("input",) or column in ahead:
        return False
    inputs = input_columns(sheet)
    for read in reads(body):
        there = column_of(read, column)
        if read[0] != "name" or read[2] != ("by", 0) or there is None or not 0 <= there < len(sheet):
            return False
        if there not in inputs and not plain_ready(sheet, there, ahead + (column,)):
            return False
    return all(len(reads(divisor)) == 0 or (len(reads(divisor)) == 1 and column_of(reads(divisor)[0], column) in inputs)
               for divisor in divisors(body))


def plain_divisors(sheet, column):
    """The list of tuples of a divisor and its column, of a column and of those that it reads."""
    body = sheet[column][1]
    found = [(divisor, column) for divisor in divisors(body)]
    for read in reads(body):
        there = column_of(read, column)
        if sheet[there][1] != ("input",):
            found += plain_divisors(sheet, there)
    return found


def has_zero(sheet, column, entry):
    for divisor, here in plain_divisors(sheet, column):
        value = worked_out(divisor, [[entry[column_of(read, here)]] for read in reads(divisor)])
        if value in (0, None):
            return True
    return False


def near_zero(sheet, column):
    """The checks that tell apart at which entries divisors are 0."""
    return [("asks", ("name", ("at", at), ("by", 0)), "=", number) for at in input_columns(sheet) for number in range(-9, 10)]


class Kept(unittest.TestCase):
    def test_is_kept(self):
        for checks, number, told in (([], 3, True), ([bars(3)], 3, False), ([bars(3)], 4, True), ([errs_at(3)], 3, False), ([errs_at(3)], None, True),
                                     ([ALWAYS, NEVER], 0, False), ([errs_at(3), bars(3)], 3, False), ([bars(1), bars(2)], 3, True)):
            self.assertIs(is_kept(checks, {0: number}), told)

    def test_entry_between(self):
        for one, other, told in (([], [], None), ([], [bars(3)], {0: 3}), ([bars(3)], [], None), ([bars(3)], [bars(3), bars(4)], {0: 4}),
                                 ([bars(3), bars(4)], [bars(4)], None), ([], [errs_at(5)], {0: 5}), ([errs_at(5)], [bars(5)], None),
                                 ([bars(5)], [errs_at(5)], None), ([NEVER], [bars(3)], None), ([], [NEVER], {0: 0}),
                                 ([("asks", OWN, ">", 3)], [("asks", OWN, ">", 4)], {0: 4}), ([("asks", OWN, ">", 4)], [("asks", OWN, ">", 3)], None),
                                 ([("empty", 0)], [("asks", OWN, "=", 0)], None), ([("asks", OWN, "=", 0)], [("empty", 0)], {0: 0})):
            self.assertEqual(entry_between(ONE, one, other), told, (one, other))
            self.assertIs(covers(ONE, one, other), told is None)

    def test_needless(self):
        for checks, told in (([], []), ([bars(3)], []), ([ALWAYS], [0]), ([bars(3), bars(3)], [0, 1]), ([bars(3), errs_at(3), bars(4)], [0, 1]),
                             ([("asks", OWN, ">", 3), ("asks", OWN, ">", 5), bars(4)], [0, 2]), ([NEVER, bars(3)], [1]), ([NEVER, NEVER, bars(3)], [0, 1, 2])):
            self.assertEqual(needless(ONE, checks), told, checks)

    def test_drawn(self):
        draw = Draw(1550)
        apart = left = 0
        for _ in range(300):
            sheet = draw.input_sheet()
            checks, other = [drawn_checks(draw, sheet, 3) if draw.number(0, 2) else draw.checks(input_columns(sheet), 3) for _ in range(2)]
            entries = class_entries(sheet, checks + other)
            told = entry_between(sheet, checks, other)
            between = [entry for entry in entries if is_kept(checks, entry) and not is_kept(other, entry)]
            self.assertIs(told is None, not between)
            self.assertIs(covers(sheet, checks, other), told is None)
            if told is not None:
                self.assertIs(is_entry(sheet, told), True)
                self.assertEqual([is_kept(checks, told), is_kept(other, told)], [True, False])
                apart += 1
            kept = [is_kept(checks, entry) for entry in class_entries(sheet, checks)]
            without = [[is_kept(checks[:at] + checks[at + 1:], entry) for entry in class_entries(sheet, checks)] for at in range(len(checks))]
            self.assertEqual(needless(sheet, checks), [at for at, told in enumerate(without) if told == kept])
            left += len(needless(sheet, checks))
            self.assertEqual([is_kept(checks, entry) for entry in entries],
                             [all(check_answer(check, entry) == "yes" for check in checks) for entry in entries])
        self.assertTrue(apart > 50 and left > 50, (apart, left))


class Divisors(unittest.TestCase):
    def test_told(self):
        for text, told in (("5", []), ("over(1, 2)", ["2"]), ("sum(over(1, 2), .[0], over(3, 4))", ["2", "4"]),
                           ("over(over(1, 2), over(3, 4))", ["over(3, 4)", "2", "4"]), ("over(over(over(1, 2), 3), over(4, over(5, 6)))",
                                                                                     ["over(4, over(5, 6))", "3", "2", "over(5, 6)", "6"]),
                           ("case(over(1, 2) = over(3, 4), over(5, 6), over(7, 8))", ["2", "4", "6", "8"]),
                           ("times(3, most(over(.[0], sum(.[0], 1)), least(over(1, .[0]))))", ["sum(.[0], 1)", ".[0]"]),
                           ("over(1, over(2, 3))", ["over(2, 3)", "3"]), ("over(over(1, 2), 3)", ["3", "2"]), ("over(1, 1)", ["1"]),
                           ("sum(over(1, 2), over(1, 2))", ["2", "2"])):
            self.assertEqual(divisors(read_formula(text)), [read_formula(one) for one in told], text)
        divisors(read_formula("over(1, 2)")).clear()
        self.assertEqual(divisors(read_formula("over(1, 2)")), [("number", 2)])


class Ready(unittest.TestCase):
    def check(self, told, *bodies):
        sheet = rows_of(*bodies)
        self.assertEqual([is_ready(sheet, column) for column in range(len(sheet))], told, bodies)
        for column, ready in enumerate(told):
            self.assertIs(plain_ready(sheet, column), ready)
            if not ready:
                for asked in (lambda: zero_entry(sheet, [], column), lambda: protecting(sheet, [], column)):
                    with self.assertRaises(NotReady) as caught:
                        asked()
                    self.assertEqual(caught.exception.column, column)

    def test_told(self):
        self.check([False, True, True, True], "input", "over(1, $0[0])", "sum($1[0], <2[0])", "7")
        self.check([False, True, False, True], "input", "$0[0]", "over(1, $1[0])", "over($1[0], $0[0])")
        self.check([False, False, True], "input", "over(1, sum($0[0], $0[0]))", "over($0[0], times(2, $0[0]))")
        self.check([False, True, True], "input", "over(1, over($0[0], 3))", "over(1, 0)")
        self.check([False, False, True], "input", "over(1, over($0[0], $0[0]))", "over(1, over(3, $0[0]))")
        self.check([False, False, False], "input", ".[0]", "sum($0[0], $1[0])")
        self.check([False] * 5, "input", "$2[0]", "$3[0]", "$1[0]", "$3[0]")
        self.check([False] * 6, "input", "$0[-1]", "$0[1]", "$0 head", "total($0[0:0])", "sum($0[0], many($0[:]))")
        self.check([False] * 4, "input", "$9[0]", ">4[0]", "?[0]")
        self.check([True, True, False, True], "$2[0]", "<1[0]", "input", "over($0[0], <1[0])")
        self.check([True], "empty")
        self.check([False, False], "$1[0]", "$0[0]")

    def test_drawn(self):
        draw = Draw(1551)
        ready = 0
        for _ in range(300):
            sheet = draw.one([draw.input_sheet, draw.sheet])()
            for column in range(len(sheet)):
                told = plain_ready(sheet, column)
                self.assertIs(is_ready(sheet, column), told)
                ready += told
        self.assertGreater(ready, 40)


class Zeros(unittest.TestCase):
    def check(self, sheet, checks, column):
        told = zero_entry(sheet, checks, column)
        known = class_entries(sheet, list(checks) + near_zero(sheet, column))
        zeros = [entry for entry in known if is_kept(checks, entry) and has_zero(sheet, column, entry)]
        if told is None:
            self.assertEqual(zeros, [])
        else:
            self.assertIs(is_entry(sheet, told), True)
            self.assertIs(is_kept(checks, told), True)
            self.assertIs(has_zero(sheet, column, told), True)
        found = [list(some) for many in range(len(checks) + 1) for some in itertools.combinations(range(len(checks)), many)
                 if zero_entry(sheet, [checks[at] for at in some], column) is None]
        self.assertEqual(protecting(sheet, checks, column), found[0] if found else None)
        return told

    def test_told(self):
        sheet = rows_of("input", "over(12, sum(<1[0], -3))", "sum($1[0], over(1, $0[0]))", "over(1, over($0[0], 5))", "over(1, 0)", "over(1, empty)",
                        "over(over(1, 2), over(1, over(1, 0)))", "9")
        for column, checks, told in ((1, [], {0: 3}), (1, [bars(3)], None), (1, [bars(4)], {0: 3}), (1, [errs_at(3)], None),
                                     (2, [bars(3)], {0: 0}), (2, [bars(3), bars(0)], None), (3, [], {0: 0}), (3, [("asks", OWN, ">", 0)], {0: 1}),
                                     (3, [("asks", OWN, ">", 4)], None), (3, [("asks", OWN, "<", 0)], None), (4, [], {0: 0}), (4, [bars(0)], {0: 1}),
                                     (4, [NEVER], None), (5, [("empty", 0)], {0: None}), (6, [], {0: 0}), (7, [], None), (7, [NEVER], None)):
            self.assertEqual(self.check(sheet, checks, column), told, (column, checks))

    def test_empty_counts_as_nought(self):
        sheet = rows_of("input", "over(1, $0[0])")
        self.assertEqual(self.check(sheet, [bars(0)], 1), None)
        self.assertEqual(self.check(sheet, [("not", ("empty", 0))], 1), {0: 0})
        self.assertEqual(self.check(sheet, [("any", (bars(0), ("empty", 0)))], 1), {0: None})

    def test_protecting(self):
        sheet = rows_of("input", "over(12, sum(<1[0], -3))", "sum($1[0], over(1, $0[0]))")
        for column, checks, told in ((1, [bars(4), bars(3), bars(3)], [1]), (2, [bars(3), bars(4), bars(0)], [0, 2]), (2, [bars(3)], None),
                                     (2, [bars(3), ("asks", OWN, ">", 5), bars(0)], [1]), (2, [bars(3), bars(0), errs_at(0), errs_at(3)], [0, 1]),
                                     (1, [], None), (1, [NEVER, bars(3)], [0])):
            self.check(sheet, checks, column)
            self.assertEqual(protecting(sheet, checks, column), told, checks)
        self.assertEqual(protecting(rows_of("input", "7"), [bars(3)], 1), [])
        self.assertEqual([zero_entry(rows_of("over(1, 0)"), [], 0), protecting(rows_of("over(1, 0)"), [NEVER], 0), zero_entry(rows_of("4"), [], 0)],
                         [{}, [0], None])

    def test_two_inputs(self):
        sheet = rows_of("input", "input", "over(1, sum($0[0], 2))", "over($2[0], times(3, $1[0]))")
        next_one = ("name", ("at", 1), ("by", 0))
        self.assertEqual(self.check(sheet, [bars(-2)], 3), {0: 0, 1: 0})
        self.assertEqual(self.check(sheet, [bars(-2), bars(0, next_one)], 3), None)
        self.assertEqual(self.check(sheet, [("any", (bars(-2), bars(0, next_one)))], 2), {0: -2, 1: 1})

    def test_drawn(self):
        draw = Draw(1552)
        zero = none = 0
        for _ in range(300):
            sheet = draw.input_sheet(4)
            for column in range(len(sheet)):
                if is_ready(sheet, column):
                    checks = drawn_checks(draw, sheet, 3) if draw.number(0, 1) else draw.checks(input_columns(sheet), 3)
                    told = self.check(sheet, checks, column)
                    zero, none = zero + (told is not None), none + (told is None and divisors(sheet[column][1]) != [])
        self.assertTrue(min(zero, none) > 3, (zero, none))

    def test_not_ready_ahead_of_all(self):
        sheet = Sheet([(NONE, ("input",), NONE), (NONE, ("name", ("by", 0), ("by", 0)), NONE)])
        for checks in ([], [errs_at(0)]):
            for asked in (zero_entry, protecting):
                for column in (0, 1):
                    with self.assertRaises(NotReady) as caught:
                        asked(sheet, checks, column)
                    self.assertEqual(caught.exception.column, column)


if __name__ == "__main__":
    unittest.main()
