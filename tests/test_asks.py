"""[150] asks: tests of one input column, and entries."""

import unittest

from longsheet.asks import column_asked, entry_at, input_columns, is_entry, is_test, test_answer, told_by
from longsheet.formulas import SIGNS
from longsheet.sheets import Sheet
from longsheet.spans import Spans
from longsheet.working import worked_out
from tests.test_leading import near
from tests.test_reckoning import sheet_of
from tests.things import FAR, NONE, Draw, more_values, nested

OWN = ("name", ("at", 0), ("by", 0))
GIVEN = (NONE, ("input",), NONE)
SIGN = {"=": lambda a, b: a == b, "<>": lambda a, b: a != b, "<": lambda a, b: a < b, "<=": lambda a, b: a <= b,
        ">": lambda a, b: a > b, ">=": lambda a, b: a >= b}


def plain_answer(test, value):
    """The answer by the words of the definition."""
    if test[0] == "empty":
        return "yes" if value is None else "no"
    found = worked_out(test[1], [[value]])
    if isinstance(found, str):
        return "error"
    return "yes" if SIGN[test[2]](found or 0, test[3]) else "no"


class IsTest(unittest.TestCase):
    def test_told(self):
        for column in range(8):
            self.assertIs(is_test(("empty", column)), True)
            self.assertIs(is_test(("asks", ("name", ("at", column), ("by", 0)), "<>", FAR)), True)
        for formula in (OWN, ("sum", (OWN, ("number", 3), NONE)), ("times", 0, OWN), ("over", ("over", NONE, NONE), OWN),
                        ("case", ("number", 1), "=", NONE, OWN, NONE), ("most", (("least", (("sum", (OWN,)),)),))):
            for sign in SIGNS:
                self.assertIs(is_test(("asks", formula, sign, 0)), True)

    def test_refused(self):
        other = ("name", ("at", 1), ("by", 0))
        for formula in (("sum", (OWN, OWN)), ("sum", (OWN, other)), ("number", 3), NONE, ("input",), ("sum", (OWN, ("input",))), ("sum", ()),
                        ("name", ("at", 8), ("by", 0)), ("name", ("by", 0), ("by", 0)), ("name", ("lost",), ("by", 0)),
                        ("name", ("at", 0), ("by", 1)), ("name", ("at", 0), ("by", -1)), ("name", ("at", 0), ("head",)),
                        ("name", ("at", 0), ("foot",)), ("name", ("at", 0), ("last", 0)), ("total", ("rows", ("at", 0), 0, 0)),
                        ("name", ("at", True), ("by", 0)), ("name", ("at", 0), ("by", False)), ("name", ("at", -1), ("by", 0)),
                        ("times", FAR + 1, OWN), ("times", True, OWN), ["name", ("at", 0), ("by", 0)], None, "x", (), ("case", OWN)):
            self.assertIs(is_test(("asks", formula, "=", 0)), False, formula)
        for sign in ("==", "", None, 1, ["="], "< ", "><"):
            self.assertIs(is_test(("asks", OWN, sign, 0)), False, sign)
        for number in (True, False, None, FAR + 1, -FAR - 1, "0", 10 ** 59, []):
            self.assertIs(is_test(("asks", OWN, "=", number)), False, number)
        for column in (8, -1, True, False, None, "0", [0], 10 ** 59):
            self.assertIs(is_test(("empty", column)), False, column)
        for thing in (("empty",), ("empty", 0, 0), ["empty", 0], ("asks", OWN, "="), ("asks", OWN, "=", 0, 0), ["asks", OWN, "=", 0],
                      ("ask", OWN, "=", 0), (OWN, "=", 0), OWN, ("all", ()), ("not", ("empty", 0))):
            self.assertIs(is_test(thing), False, thing)
        for thing in more_values() + [nested(30)]:
            if thing not in [("empty", 0), ("asks", OWN, "=", 0)]:
                self.assertIs(is_test(thing), False, thing)


class Entries(unittest.TestCase):
    SHEET = sheet_of("empty | input | empty", "input | 3 | empty", "empty | input | empty")

    def test_input_columns(self):
        self.assertEqual(input_columns(self.SHEET), [0, 2])
        self.assertEqual([input_columns(Sheet([])), input_columns(Sheet([GIVEN] * 3))], [[], [0, 1, 2]])
        input_columns(self.SHEET).clear()
        self.assertEqual(input_columns(self.SHEET), [0, 2])

    def test_is_entry(self):
        for thing in ({0: None, 2: None}, {0: 1, 2: -FAR}, {2: FAR, 0: 0}):
            self.assertIs(is_entry(self.SHEET, thing), True)
        for thing in ({}, {0: 1}, {2: 1}, {0: 1, 1: None, 2: 3}, {0: 1, 2: True}, {0: 1, 2: FAR + 1}, {0: -FAR - 1, 2: 0}, {0: 1, 2: "#zero"},
                      {0: 1, 2: 3, 3: 4}, {False: 1, 2: 3}, {"0": 1, 2: 3}, {(0, 0): 1, 2: 3}, {0: [], 2: 3}, [0, 2], [(0, 1), (2, 1)],
                      {0: 1, None: 2}, {0: 1, 2: False}):
            self.assertIs(is_entry(self.SHEET, thing), False, thing)
        for thing in more_values() + [nested(30)]:
            self.assertIs(is_entry(self.SHEET, thing), False, thing)
        self.assertIs(is_entry(Sheet([]), {}), True)
        self.assertIs(is_entry(Sheet([GIVEN, GIVEN]), {True: 1, 0: 1}), False)

    def test_entry_at(self):
        contents = {(0, 0): 5, (0, 1): 0, (2, 1): -7, (1, -1): 9, (1, 1): 8, (7, 1): 3}
        self.assertEqual([entry_at(self.SHEET, contents, row) for row in (0, 1, 2)],
                         [{0: 5, 2: None}, {0: 0, 2: -7}, {0: None, 2: None}])
        self.assertEqual(list(entry_at(self.SHEET, {(2, 0): 1, (0, 0): 2}, 0)), [0, 2])
        self.assertEqual(entry_at(Sheet([]), {}, 3), {})
        for row in (0, 1, 2):
            self.assertIs(is_entry(self.SHEET, entry_at(self.SHEET, contents, row)), True)


class Answers(unittest.TestCase):
    def test_column_asked(self):
        for column in range(8):
            name = ("name", ("at", column), ("by", 0))
            self.assertEqual([column_asked(("empty", column)), column_asked(("asks", name, "=", 0)),
                              column_asked(("asks", ("sum", (("over", NONE, ("times", 2, name)), NONE)), "=", 0))], [column] * 3)

    def test_answers(self):
        whole = ("over", ("number", 12), ("sum", (OWN, ("number", -3))))
        for test, told in ((("empty", 0), {None: "yes", 0: "no", FAR: "no"}), (("asks", OWN, "=", 0), {None: "yes", 0: "yes", 1: "no"}),
                           (("asks", OWN, "<>", 0), {None: "no", 5: "yes"}), (("asks", OWN, ">=", FAR), {FAR: "yes", FAR - 1: "no", -FAR: "no"}),
                           (("asks", OWN, "<", -FAR), {-FAR: "no"}), (("asks", ("times", FAR, OWN), ">", FAR), {FAR: "yes", 1: "no", 2: "yes"}),
                           (("asks", whole, ">", 2), {3: "error", None: "no", 4: "yes", 7: "yes", 8: "no", 2: "no"}),
                           (("asks", ("most", (OWN,)), "=", 0), {None: "yes", 0: "yes", 3: "no"}),
                           (("asks", ("case", OWN, "=", NONE, ("over", NONE, NONE), NONE), "=", 0), {None: "error", 0: "error", 7: "yes"}),
                           (("asks", ("sum", (("over", NONE, NONE), OWN)), "=", 0), {None: "error", 4: "error"})):
            for value, answer in told.items():
                self.assertEqual(test_answer(test, value), answer, (test, value))

    def test_told_by(self):
        draw = Draw(1500)
        kinds = {}
        for _ in range(600):
            test = draw.test(draw.number(0, 7), draw.one([9, 30]))
            self.assertIs(is_test(test), True)
            told = told_by(test)
            self.assertEqual(list(told), ["error", "no", "yes"])
            numbers = {-FAR, FAR}
            for spans, empty in told.values():
                self.assertIsInstance(spans, Spans)
                self.assertIsInstance(empty, bool)
                numbers |= {number for number in near(spans) if -FAR <= number <= FAR}
            for number in numbers:
                answer = plain_answer(test, number)
                self.assertEqual(test_answer(test, number), answer)
                self.assertEqual([one for one in told if number in told[one][0]], [answer], (test, number))
            self.assertEqual([one for one in told if told[one][1]], [plain_answer(test, None)])
            self.assertEqual(test_answer(test, None), plain_answer(test, None))
            both = told["error"][0] | told["no"][0] | told["yes"][0]
            self.assertEqual([both, sum(told[one][0].many() for one in told)], [Spans([(-FAR, FAR)]), 2 * FAR + 1])
            for one in told:
                kinds[one] = kinds.get(one, 0) + (0 < len(told[one][0]) and told[one][0] != both)
        self.assertTrue(min(kinds.values()) > 30, kinds)

    def test_told_by_plain_ones(self):
        self.assertEqual(told_by(("empty", 3)), {"error": (Spans([]), False), "no": (Spans([(-FAR, FAR)]), False), "yes": (Spans([]), True)})
        self.assertEqual(told_by(("asks", OWN, ">", 4)), {"error": (Spans([]), False), "no": (Spans([(-FAR, 4)]), True),
                                                         "yes": (Spans([(5, FAR)]), False)})
        told = told_by(("asks", ("over", ("number", 12), OWN), "=", 3))
        self.assertEqual(told, {"error": (Spans([(0, 0)]), True), "no": (Spans([(-FAR, -1), (1, 3), (5, FAR)]), False),
                                "yes": (Spans([(4, 4)]), False)})
        told.clear()
        self.assertEqual(len(told_by(("asks", ("over", ("number", 12), OWN), "=", 3))), 3)


if __name__ == "__main__":
    unittest.main()
