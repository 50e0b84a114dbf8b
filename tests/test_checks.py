"""[151] checks: tests that are joined by all, any and not."""

import unittest

from longsheet.asks import column_asked, test_answer
from longsheet.checks import asked_of, check_answer, fits_sheet, is_check, tests_of
from longsheet.sheets import Sheet
from tests.things import NONE, Draw, more_values, nested

OWN = ("name", ("at", 0), ("by", 0))
GIVEN = (NONE, ("input",), NONE)
# Tests of column 0 that answer always the same but at 0, where the last one errs.
IS_EMPTY, IS_FIVE, ERRS = ("empty", 0), ("asks", OWN, "=", 5), ("asks", ("over", ("number", 1), OWN), "<", 1)
YES, NO, ERROR = ("asks", ("times", 0, OWN), "=", 0), ("asks", ("times", 0, OWN), "=", 1), ("asks", ("over", OWN, ("number", 0)), "=", 0)


def plain_asked(check, entry):
    """The tuple of the answer and of what is asked on the way, by the words of the definition."""
    if check[0] == "not":
        answer, asked = plain_asked(check[1], entry)
        return ({"yes": "no", "no": "yes"}.get(answer, answer), asked)
    if check[0] not in ("all", "any"):
        answer = test_answer(check, entry[column_asked(check)])
        return (answer, [(check, answer)])
    asked = []
    for part in check[1]:
        answer, more = plain_asked(part, entry)
        asked += more
        if answer == "error" or answer == ("no" if check[0] == "all" else "yes"):
            return (answer, asked)
    return ("yes" if check[0] == "all" else "no", asked)


class IsCheck(unittest.TestCase):
    def test_told(self):
        for check in (IS_EMPTY, IS_FIVE, ERRS, ("all", ()), ("any", ()), ("not", IS_EMPTY), ("not", ("not", ("all", ()))),
                      ("all", (IS_EMPTY, ("any", (ERRS, IS_FIVE, ERRS)), ("not", ("any", ()))))):
            self.assertIs(is_check(check), True, check)
        deep = IS_FIVE
        for _ in range(9):
            deep = ("all", (("not", deep), deep[:0] or ("any", ())))
        self.assertIs(is_check(deep), True)

    def test_refused(self):
        for thing in (("all",), ("all", [IS_EMPTY]), ("all", (IS_EMPTY, None)), ("all", (), ()), ["all", ()], ("all", IS_EMPTY), ("any", []),
                      ("any", ((),)), ("not",), ("not", ()), ("not", (IS_EMPTY,)), ("not", IS_EMPTY, IS_EMPTY), ("not", None), ["not", IS_EMPTY],
                      ("none", ()), ("empty", 8), ("all", (("empty", True),)), ("not", ("asks", OWN, "=", True)), ("all", "x"), ("all", {}),
                      ("any", {IS_EMPTY}), ("any", None), [IS_EMPTY], (IS_EMPTY,), (("all",), ())):
            self.assertIs(is_check(thing), False, thing)
        good = [("empty", 0), ("asks", OWN, "=", 0), ("all", ()), ("not", ("empty", 7))]
        for thing in more_values() + [nested(30)]:
            self.assertIs(is_check(thing), thing in good, thing)


class Tests(unittest.TestCase):
    def test_tests_of(self):
        for check, told in ((IS_FIVE, [IS_FIVE]), (("all", ()), []), (("not", ("any", ())), []), (("not", ERRS), [ERRS]),
                            (("all", (ERRS, IS_FIVE, ("not", ERRS), ("any", (IS_EMPTY, IS_FIVE)))), [ERRS, IS_FIVE, IS_EMPTY]),
                            (("any", (("all", (IS_EMPTY, ERRS)), IS_EMPTY, IS_FIVE)), [IS_EMPTY, ERRS, IS_FIVE])):
            self.assertEqual(tests_of(check), told)
            tests_of(check).append(None)
            self.assertEqual(tests_of(check), told)

    def test_fits_sheet(self):
        sheet = Sheet([GIVEN, (("input",), NONE, NONE), GIVEN])
        for check, told in ((("empty", 0), True), (("empty", 1), False), (("empty", 2), True), (("empty", 3), False), (("all", ()), True),
                            (("not", ("all", (("empty", 0), ("empty", 2)))), True), (("any", (("empty", 0), ("empty", 7))), False),
                            (("any", (("any", ()), ("not", ("empty", 1)))), False)):
            self.assertIs(fits_sheet(check, sheet), told, check)
            self.assertIs(fits_sheet(check, Sheet([])), tests_of(check) == [])


class Answers(unittest.TestCase):
    def check(self, check, entry, answer, asked):
        self.assertEqual(check_answer(check, entry), answer, check)
        self.assertEqual([test for test, _ in asked_of(check, entry)], asked, check)
        self.assertEqual((answer, asked_of(check, entry)), plain_asked(check, entry))

    def test_ends(self):
        entry = {0: 4}
        for check, answer, asked in (
                (("all", ()), "yes", []), (("any", ()), "no", []), (("not", ("all", ())), "no", []), (("not", ("any", ())), "yes", []),
                (("not", ERROR), "error", [ERROR]), (("not", ("not", YES)), "yes", [YES]), (YES, "yes", [YES]), (ERROR, "error", [ERROR]),
                (("all", (YES, NO, ERROR)), "no", [YES, NO]), (("all", (YES, ERROR, NO)), "error", [YES, ERROR]),
                (("all", (YES, YES)), "yes", [YES, YES]), (("any", (NO, YES, ERROR)), "yes", [NO, YES]),
                (("any", (NO, ERROR, YES)), "error", [NO, ERROR]), (("any", (NO, NO)), "no", [NO, NO]),
                (("all", (("any", (NO, YES)), ("not", NO), ("all", ()))), "yes", [NO, YES, NO]),
                (("any", (("all", (NO, ERROR)), ("not", YES), ("any", (NO, ERROR, YES)))), "error", [NO, YES, NO, ERROR]),
                (("not", ("any", (NO, ("not", ERROR), YES))), "error", [NO, ERROR])):
            self.check(check, entry, answer, asked)

    def test_at_values(self):
        check = ("all", (("not", IS_EMPTY), ("any", (IS_FIVE, ERRS))))
        for value, answer, asked in ((None, "no", [IS_EMPTY]), (5, "yes", [IS_EMPTY, IS_FIVE]), (0, "error", [IS_EMPTY, IS_FIVE, ERRS]),
                                     (1, "no", [IS_EMPTY, IS_FIVE, ERRS]), (2, "yes", [IS_EMPTY, IS_FIVE, ERRS])):
            self.check(check, {0: value}, answer, asked)

    def test_drawn(self):
        draw = Draw(1510)
        answers = {}
        for _ in range(500):
            columns = list(range(draw.number(1, 3)))
            check = draw.check([draw.test(column) for column in columns for _ in range(2)], 3)
            entry = {column: draw.one([None, 0, draw.number(-9, 9)]) for column in columns}
            answer, asked = plain_asked(check, entry)
            self.assertIs(is_check(check), True)
            self.assertEqual([check_answer(check, entry), asked_of(check, entry)], [answer, asked])
            answers[answer] = answers.get(answer, 0) + 1
        self.assertTrue(len(answers) == 3 and min(answers.values()) > 20, answers)


if __name__ == "__main__":
    unittest.main()
