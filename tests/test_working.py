"""[79] working: formulas worked out by the values of what they read."""

import unittest

from longsheet.formulas import reads
from longsheet.notation import read_formula
from longsheet.working import worked_out
from tests.things import FAR, Draw

VALUES = [None, 0, 1, -1, 7, -7, 10 ** 30, "#lost", "#ring", "#zero"]


def plain_work(formula, waiting):
    """The value of a formula by the words of the definition; takes what its reads are told off the list."""
    word = formula[0]
    if word == "number":
        return formula[1]
    if word == "empty":
        return None
    if word in ("name", "total", "many", "top", "low"):
        told = waiting.pop(0)
        if told is None:
            return "#lost"
        if word == "name":
            return told[0] if told else None
        wrong = [one for one in told if isinstance(one, str)]
        return wrong[0] if wrong else plain_gather(word, told)
    if word in ("sum", "most", "least"):
        inner = [plain_work(part, waiting) for part in formula[1]]
    else:
        inner = [plain_work(part, waiting) for part in formula[1:] if isinstance(part, tuple)]
    if word == "case":
        one, other, then, rest = inner
        wrong = [value for value in (one, other) if isinstance(value, str)]
        if wrong:
            return wrong[0]
        one, other = one or 0, other or 0
        return then if {"=": one == other, "<>": one != other, "<": one < other, "<=": one <= other, ">": one > other,
                        ">=": one >= other}[formula[2]] else rest
    wrong = [value for value in inner if isinstance(value, str)]
    if wrong:
        return wrong[0]
    if word == "times":
        return formula[1] * (inner[0] or 0)
    if word == "over":
        return (inner[0] or 0) // inner[1] if inner[1] else "#zero"
    return plain_gather(word, inner)


def plain_gather(word, told):
    there = [one for one in told if one is not None]
    if word in ("sum", "total"):
        return sum(there)
    if word == "many":
        return len(there)
    return (max if word in ("most", "top") else min)(there) if there else None


class Working(unittest.TestCase):
    def check(self, text, others, value):
        self.assertEqual(worked_out(read_formula(text), others), value, (text, others))

    def test_numbers_and_names(self):
        for text, others, value in (("5", [], 5), ("empty", [], None), (".[0]", [[7]], 7), (".[0]", [[None]], None),
                                    (".[0]", [[]], None),
                                    ("?[0]", [None], "#lost"), (".[0]", [["#zero"]], "#zero"), (".[0]", [["#ring"]], "#ring")):
            self.check(text, others, value)

    def test_sums_and_times(self):
        for text, others, value in (
                ("sum()", [], 0), ("sum(empty)", [], 0), ("sum(1, empty, .[0])", [[4]], 5),
                ("sum(.[0], ?[0])", [["#zero"], None], "#zero"),
                ("sum(?[0], .[0])", [None, ["#zero"]], "#lost"), ("times(3, empty)", [], 0), ("times(-2, .[0])", [[7]], -14),
                ("times(0, .[0])", [["#ring"]], "#ring"), ("times(0, ?[0])", [None], "#lost"),
                ("sum(1, times(2, .[0]))", [[]], 1)):
            self.check(text, others, value)

    def test_most_and_least(self):
        for text, others, value in (
                ("most()", [], None), ("least()", [], None), ("most(empty, .[0])", [[None]], None),
                ("most(-3, empty, .[0])", [[-5]], -3),
                ("least(-3, empty, .[0])", [[-5]], -5), ("most(.[0], empty)", [[-5]], -5),
                ("most(9, .[0], ?[0])", [["#zero"], None], "#zero"),
                ("least(.[0], 1)", [[None]], 1)):
            self.check(text, others, value)

    def test_over(self):
        for one, other, value in ((7, 2, 3), (-7, 2, -4), (7, -2, -4), (-7, -2, 3), (0, 5, 0), (None, 5, 0), (5, 0, "#zero"),
                                  (5, None, "#zero"), (None, None, "#zero"), ("#lost", 0, "#lost"), (5, "#ring", "#ring"),
                                  ("#ring", "#lost", "#ring"), (10 ** 30, 7, 10 ** 30 // 7)):
            self.check("over(.[0], .[1])", [[one], [other]], value)

    def test_cases(self):
        signs = {"=": (False, True, False), "<>": (True, False, True), "<": (True, False, False), "<=": (True, True, False),
                 ">": (False, False, True), ">=": (False, True, True)}
        for sign, told in signs.items():
            for one, holds in zip((-1, 0, 1), told):
                for other in (0, None):
                    self.check(f"case(.[0] {sign} .[1], 10, empty)", [[one], [other]], 10 if holds else None)
            self.check(f"case(empty {sign} .[1], 10, 20)", [[-1]], 10 if told[2] else 20)
            # Parts that are not worked out bring no error.
            for then, rest in (("#zero", 4), (4, "#lost")):
                told_rest = signs[sign][0]
                self.check(f"case(1 {sign} 2, .[0], .[1])", [[then], [rest]], then if told_rest else rest)
            self.check(f"case(.[0] {sign} .[1], 1, 2)", [["#zero"], ["#lost"]], "#zero")
            self.check(f"case(0 {sign} .[1], .[0], 2)", [["#lost"], ["#ring"]], "#lost")
            self.check(f"case(over(1, 0) {sign} .[1], .[0], 2)", [["#lost"], ["#ring"]], "#zero")

    def test_reads_behind_parts_that_are_not_worked_out(self):
        text = "sum(case(.[0] < 0, total(.[:-1]), .[-1]), .[-2], case(1 = 1, 5, over(.[1], .[2])))"
        self.check(text, [[-1], [1, 2, 3], [100], [1000], [0], [0]], 1011)
        self.check(text, [[0], ["#ring"], [100], [1000], ["#lost"], [0]], 1105)
        self.check("sum(over(.[0], .[1]), .[2])", [["#ring"], [0], [5]], "#ring")
        self.check("most(case(.[0] = 0, 1, total(.[:0])), top(.[:1]))", [[0], None, [3, 9, None]], 9)

    def test_ranges(self):
        for word, filled, none in (("total", 5, 0), ("many", 3, 0), ("top", 7, None), ("low", -2, None)):
            text = word + "(.[:])"
            self.check(text, [[-2, None, 7, 0]], filled)
            self.check(text, [[]], none)
            self.check(text, [[None, None]], none)
            self.check(text, [None], "#lost")
            self.check(text, [[5, "#zero", "#lost"]], "#zero")
            self.check(text, [["#ring", None, "#zero"]], "#ring")

    def test_drawn(self):
        draw = Draw(79)
        kinds = set()
        for _ in range(3000):
            formula = draw.formula(draw.one(["body", "foot", None]), 4)
            others = []
            for read in reads(formula):
                many = draw.number(0, 4) if read[0] == "rows" else draw.one([1, 1, 1, 0])
                values = VALUES if draw.number(0, 2) == 0 else VALUES[:7]
                others.append(None if read[1] == ("lost",) else [draw.one(values) for _ in range(many)])
            kept = [None if told is None else list(told) for told in others]
            value = worked_out(formula, others)
            self.assertEqual(value, plain_work(formula, list(others)), (formula, others))
            self.assertIsNot(value, True)
            self.assertEqual(others, kept)
            kinds.add(value if value is None or isinstance(value, str) else int)
        self.assertEqual(kinds, {None, int, "#lost", "#ring", "#zero"})

    def test_great_numbers(self):
        text = f"times({FAR}, times({-FAR}, sum({FAR}, .[0])))"
        self.check(text, [[1]], -(10 ** 24) * (10 ** 12 + 1))


if __name__ == "__main__":
    unittest.main()
