"""[153] safe: orders of checks by which no entry is broken, and checks that have none."""

import itertools
import unittest

from longsheet.asks import input_columns, is_entry
from longsheet.checks import check_answer
from longsheet.classes import class_entries
from longsheet.safe import are_in_order, broken_entry, is_stuck, must_lead, outcome, safe_order, stuck
from longsheet.sheets import Sheet
from tests.things import NONE, Draw, more_values, nested

OWN, NEXT = ("name", ("at", 0), ("by", 0)), ("name", ("at", 1), ("by", 0))
GIVEN = (NONE, ("input",), NONE)
ONE = Sheet([GIVEN])


def errs_at(number, column=OWN):
    """A check that errs at a number, and answers "yes" elsewhere."""
    return ("asks", ("times", 0, ("over", ("number", 1), ("sum", (column, ("number", -number))))), "=", 0)


def bars(number, column=OWN):
    """A check that answers "no" at a number alone."""
    return ("asks", column, "<>", number)


def drawn_checks(draw, sheet, most):
    """Checks of which many err at a few numbers, and as many bar them."""
    columns = input_columns(sheet)
    if not columns:
        return draw.checks(columns, most)
    found = []
    for _ in range(draw.number(0, most)):
        inner = []
        for _ in range(draw.number(1, 2)):
            column = ("name", ("at", draw.one(columns[:2])), ("by", 0))
            inner.append(draw.one([errs_at, bars, bars])(draw.number(0, 1), column))
        found.append(draw.one([inner[0], ("all", tuple(inner)), ("any", tuple(inner)), ("not", inner[0])]))
    return found


def plain_outcome(checks, order, entry):
    for index in order:
        answer = check_answer(checks[index], entry)
        if answer != "yes":
            return ({"no": "refused", "error": "broken"}[answer], index)
    return ("kept",)


def is_safe(sheet, checks, order):
    return all(plain_outcome(checks, order, entry)[0] != "broken" for entry in class_entries(sheet, checks))


def safe_orders(sheet, checks):
    return [list(order) for order in itertools.permutations(range(len(checks))) if is_safe(sheet, checks, order)]


def stuck_lots(sheet, checks):
    """All lots of checks that are stuck, by the words of the definition."""
    entries = class_entries(sheet, checks)
    answers = [[check_answer(check, entry) for check in checks] for entry in entries]
    found = []
    for many in range(1, len(checks) + 1):
        for lot in itertools.combinations(range(len(checks)), many):
            if all(any(told[at] == "error" and not any(told[other] == "no" for other in range(len(checks)) if other not in lot)
                       for told in answers) for at in lot):
                found.append(list(lot))
    return found


class Outcomes(unittest.TestCase):
    def test_outcome(self):
        checks = [errs_at(3), bars(3), bars(4)]
        for order, number, told in (([0, 1, 2], 3, ("broken", 0)), ([1, 0, 2], 3, ("refused", 1)), ([0, 1, 2], 4, ("refused", 2)),
                                    ([2, 1, 0], 5, ("kept",)), ([2, 0, 1], 3, ("broken", 0)), ([0, 1, 2], None, ("kept",))):
            self.assertEqual(outcome(checks, order, {0: number}), told)
        self.assertEqual(outcome([], [], {0: 3}), ("kept",))
        self.assertEqual(outcome([("all", ()), ("any", ())], [1, 0], {}), ("refused", 1))

    def test_are_in_order(self):
        checks = [("all", ())] * 3
        for thing in ([0, 1, 2], [2, 0, 1], [2, 1, 0]):
            self.assertIs(are_in_order(checks, thing), True)
        for thing in ([0, 1], [0, 1, 1], [0, 1, 3], [-1, 0, 1], (0, 1, 2), [0, True, 2], [False, 1, 2], [0, 1, 2, 2], [0, 1, "2"],
                      [0, 1, None], {0: 0, 1: 1, 2: 2}, "012", [[0, 1, 2]]):
            self.assertIs(are_in_order(checks, thing), False, thing)
        for thing in more_values() + [nested(30)]:
            self.assertIs(are_in_order(checks, thing), False)
            self.assertIs(are_in_order([], thing), isinstance(thing, list) and thing == [])
        for thing, told in (([0], True), ([False], False), ([], False)):
            self.assertIs(are_in_order([("any", ())], thing), told)


class Orders(unittest.TestCase):
    def test_told(self):
        for checks, told in (([], []), ([("all", ())], [0]), ([errs_at(3)], None), ([errs_at(3), bars(3)], [1, 0]),
                             ([bars(3), errs_at(3)], [0, 1]), ([errs_at(3), bars(4)], None), ([errs_at(3), errs_at(4), bars(4), bars(3)], [2, 1, 3, 0]),
                             ([("all", (bars(3), errs_at(3)))], [0]), ([("all", (errs_at(3), bars(3)))], None),
                             ([("any", (errs_at(3), bars(3))), ("not", ("asks", OWN, "=", 3))], [1, 0]),
                             ([("all", (bars(1), errs_at(2))), ("all", (bars(2), errs_at(1)))], None),
                             ([("all", (bars(1), errs_at(2))), bars(2), ("all", (bars(2), errs_at(1)))], [1, 0, 2])):
            self.assertEqual(safe_order(ONE, checks), told, checks)

    def test_six_checks(self):
        checks = [errs_at(number) for number in range(5)] + [("asks", OWN, "<", 0)]
        self.assertEqual(safe_order(ONE, checks), [5, 0, 1, 2, 3, 4])
        checks = [("all", (errs_at(at), bars(at + 1))) for at in range(5)] + [bars(0)]
        self.assertEqual(safe_order(ONE, checks), [5, 0, 1, 2, 3, 4])
        checks = [("all", (errs_at(at), bars(at - 1))) for at in range(5)] + [bars(4)]
        self.assertEqual(safe_order(ONE, checks), [5, 4, 3, 2, 1, 0])
        for one in range(6):
            for other in range(6):
                if one != other:
                    self.assertIs(must_lead(ONE, checks, one, other), one > other)

    def test_two_input_columns(self):
        sheet = Sheet([GIVEN, GIVEN])
        checks = [errs_at(3), bars(0, NEXT), ("any", (bars(3), ("asks", NEXT, "=", 0)))]
        self.assertEqual([safe_order(sheet, checks), safe_order(sheet, checks[:2]), safe_order(sheet, [checks[0], checks[2]])],
                         [[1, 2, 0], None, None])
        self.assertEqual(stuck(sheet, checks[:2]), ([0], {0: {0: 3, 1: 1}}))

    def test_drawn(self):
        draw = Draw(1530)
        safe = none = moved = 0
        for _ in range(400):
            sheet = draw.input_sheet()
            checks = drawn_checks(draw, sheet, 4) if draw.number(0, 3) else draw.checks(input_columns(sheet))
            orders = safe_orders(sheet, checks)
            found, lots = safe_order(sheet, checks), stuck_lots(sheet, checks)
            self.assertEqual(found, orders[0] if orders else None)
            told = stuck(sheet, checks)
            self.assertIs(told is None, bool(orders))
            self.assertIs(told is None, not lots)
            if told is not None:
                self.assertEqual(told[0], max(lots, key=len))
                self.assertTrue(all(set(lot) <= set(told[0]) for lot in lots))
                self.assertIs(is_stuck(sheet, checks, told), True)
                self.assertEqual(list(told[1]), told[0])
            for one, other in itertools.permutations(range(len(checks)), 2):
                self.assertIs(must_lead(sheet, checks, one, other), all(order.index(one) < order.index(other) for order in orders))
            for order in itertools.permutations(range(len(checks))):
                entry = broken_entry(sheet, checks, list(order))
                self.assertIs(entry is None, list(order) in orders)
                if entry is not None:
                    self.assertIs(is_entry(sheet, entry), True)
                    self.assertEqual(outcome(checks, list(order), entry)[0], "broken")
            safe, none = safe + bool(orders), none + (not orders)
            moved += found not in (None, list(range(len(checks))))
        self.assertTrue(min(safe, none, moved) > 20, (safe, none, moved))


class IsStuck(unittest.TestCase):
    CHECKS = [errs_at(3), errs_at(4), bars(3), bars(5), errs_at(5)]

    def test_told(self):
        self.assertEqual(stuck(ONE, self.CHECKS), ([1], {1: {0: 4}}))
        self.assertIs(is_stuck(ONE, self.CHECKS, ([1], {1: {0: 4}})), True)
        checks = [errs_at(3), errs_at(4), errs_at(3)]
        self.assertEqual(stuck(ONE, checks), ([0, 1, 2], {0: {0: 3}, 1: {0: 4}, 2: {0: 3}}))
        for lot in ([0], [1], [2], [0, 1], [0, 2], [1, 2], [0, 1, 2]):
            self.assertIs(is_stuck(ONE, checks, (lot, {at: {0: 4 if at == 1 else 3} for at in lot[::-1]})), True)

    def test_bent(self):
        checks = [errs_at(3), bars(3), errs_at(4)]
        good = ([2], {2: {0: 4}})
        self.assertIs(is_stuck(ONE, checks, good), True)
        for thing in (([2], {2: {0: 3}}), ([2], {2: {0: None}}), ([2], {2: {}}), ([2], {2: {0: True}}), ([2], {2: {0: 4, 1: 0}}), ([2], {}),
                      ([2], {2: {0: 4}, 0: {0: 3}}), ([2], {True: {0: 4}}), ([0, 2], {0: {0: 3}, 2: {0: 4}}), ([], {}), ((2,), {2: {0: 4}}),
                      [[2], {2: {0: 4}}], ([2, 2], {2: {0: 4}}), ([3], {3: {0: 4}}), ([-1], {-1: {0: 4}}), ([2],), ([2], {2: {0: 4}}, 0),
                      ([2], [(2, {0: 4})]), ([2], {2: [4]}), ([2], {2: None}), ([2], None), (None, {}), ([True], {1: {0: 3}}), ([2.0 and "2"], {}),
                      ([2], {"2": {0: 4}}), ([2], {2: {0: "4"}}), ([2], {2: {False: 4}})):
            self.assertIs(is_stuck(ONE, checks, thing), False, thing)
        for thing in more_values() + [nested(30)]:
            self.assertIs(is_stuck(ONE, checks, thing), False)
        both = [errs_at(0), errs_at(1)]
        for thing, told in ((([0, 1], {0: {0: 0}, 1: {0: 1}}), True), (([1, 0], {0: {0: 0}, 1: {0: 1}}), False),
                            (([0, 1], {0: {0: 1}, 1: {0: 0}}), False), (([0, 1], {False: {0: 0}, True: {0: 1}}), False),
                            (([0, True], {0: {0: 0}, 1: {0: 1}}), False), (([0], {0: {0: 0}}), True)):
            self.assertIs(is_stuck(ONE, both, thing), told, thing)

    def test_nothing_told_stands_twice(self):
        told = stuck(ONE, [errs_at(3), errs_at(3)])
        self.assertEqual(told, ([0, 1], {0: {0: 3}, 1: {0: 3}}))
        told[1][0][0] = 9
        self.assertEqual(told[1][1], {0: 3})
        self.assertEqual(stuck(ONE, [errs_at(3), errs_at(3)]), ([0, 1], {0: {0: 3}, 1: {0: 3}}))


if __name__ == "__main__":
    unittest.main()
