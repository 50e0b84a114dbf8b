"""[154] guards: checks of which one answers "no" wherever another one errs."""

import itertools
import unittest

from longsheet.asks import input_columns, is_entry
from longsheet.checks import check_answer
from longsheet.classes import class_entries
from longsheet.guards import all_guards, are_guards, bare_entry, least_guards
from longsheet.sheets import Sheet
from tests.test_safe import GIVEN, NEXT, ONE, bars, drawn_checks, errs_at
from tests.things import Draw, more_values, nested


def plain_guards(sheet, checks, at):
    """All lists of guards by the words of the definition, those with fewer checks first."""
    errors = [entry for entry in class_entries(sheet, checks) if check_answer(checks[at], entry) == "error"]
    others = [index for index in range(len(checks)) if index != at]
    return [list(some) for many in range(len(others) + 1) for some in itertools.combinations(others, many)
            if all(any(check_answer(checks[index], entry) == "no" for index in some) for entry in errors)]


class Guards(unittest.TestCase):
    def check(self, sheet, checks, at):
        told = plain_guards(sheet, checks, at)
        least = [some for some in told if not any(set(fewer) < set(some) for fewer in told)]
        self.assertEqual(all_guards(sheet, checks, at), least, (checks, at))
        self.assertEqual(least_guards(sheet, checks, at), least[0] if least else None)
        for many in range(len(checks)):
            for some in itertools.combinations(range(len(checks)), many):
                self.assertIs(are_guards(sheet, checks, at, list(some)), list(some) in told)
        entry = bare_entry(sheet, checks, at)
        self.assertIs(entry is None, bool(told))
        if entry is not None:
            self.assertIs(is_entry(sheet, entry), True)
            self.assertEqual(check_answer(checks[at], entry), "error")
            self.assertNotIn("no", [check_answer(check, entry) for check in checks])
        return least

    def test_told(self):
        both = ("all", (errs_at(3), errs_at(4)))
        for checks, at, told in (([both, bars(3), bars(4)], 0, [[1, 2]]), ([both, bars(3)], 0, []), ([both], 0, []), ([bars(3)], 0, [[]]),
                                 ([both, bars(3), bars(4)], 1, [[]]), ([bars(3), bars(4), both, ("asks", ("name", ("at", 0), ("by", 0)), "<", 0)], 2,
                                                                      [[3], [0, 1]]),
                                 ([both, bars(4), bars(3), bars(3), bars(4)], 0, [[1, 2], [1, 3], [2, 4], [3, 4]]),
                                 ([both, ("any", ()), bars(3), bars(4)], 0, [[1], [2, 3]]), ([("any", ()), ("all", ())], 1, [[]]),
                                 ([both, both, ("not", both)], 0, []), ([("any", ())] * 2 + [errs_at(0)], 2, [[0], [1]])):
            self.assertEqual(self.check(ONE, checks, at), told, checks)
        self.assertEqual([bare_entry(ONE, [both, bars(3)], 0), bare_entry(ONE, [both, bars(4)], 0), bare_entry(ONE, [both, bars(4), bars(3)], 0)],
                         [{0: 4}, {0: 3}, None])

    def test_two_input_columns(self):
        sheet = Sheet([GIVEN, GIVEN])
        checks = [errs_at(3), bars(0, NEXT), ("any", (bars(3), ("not", bars(0, NEXT))))]
        self.assertEqual(self.check(sheet, checks, 0), [[1, 2]])

    def test_drawn(self):
        draw = Draw(1540)
        many = {}
        for _ in range(250):
            sheet = draw.input_sheet()
            checks = drawn_checks(draw, sheet, 5) if draw.number(0, 3) else draw.checks(input_columns(sheet), 5)
            for at in range(len(checks)):
                least = self.check(sheet, checks, at)
                many[len(least)] = many.get(len(least), 0) + (least != [[]])
        self.assertTrue(many[0] > 20 and many[1] > 20 and max(many) > 1, many)

    def test_any_value(self):
        checks = [errs_at(0), bars(0), bars(0)]
        for thing in ([1], [2], [1, 2]):
            self.assertIs(are_guards(ONE, checks, 0, thing), True)
        for thing in ([], [0], [0, 1], [2, 1], [1, 1], [3], [1, 3], [-1], [True], [1, True], (1,), {1}, {1: 1}, "1", [[1]], ["1"], [1, None], None, 1):
            self.assertIs(are_guards(ONE, checks, 0, thing), False, thing)
        for thing in more_values() + [nested(30)]:
            self.assertIs(are_guards(ONE, checks, 0, thing), False)
            self.assertIs(are_guards(ONE, checks, 1, thing), isinstance(thing, list) and thing == [])

    def test_told_things_may_be_changed(self):
        checks = [errs_at(0), bars(0)]
        for asked in (all_guards, least_guards):
            told = asked(ONE, checks, 0)
            told[0:1] = [7, 8]
            self.assertEqual(asked(ONE, checks, 0), [[1]] if asked is all_guards else [1])
        all_guards(ONE, checks, 0)[0].append(5)
        self.assertEqual(all_guards(ONE, checks, 0), [[1]])


if __name__ == "__main__":
    unittest.main()
