"""[133] leading: lots that are led back through a formula to one of the cells that it reads."""

import unittest

from longsheet.formulas import SIGNS, reads
from longsheet.leading import led_back
from longsheet.lots import in_lot, is_lot
from longsheet.notation import read_formula
from longsheet.spans import Spans
from longsheet.working import worked_out
from tests.things import FAR, Draw

ERRORS = ("#lost", "#ring", "#zero")
NONE, ALL = (Spans([]), False, ()), (Spans([(None, None)]), True, ERRORS)
PLAIN = (None, 0, 1, -1, 2, -2, 5, -7, 12, -12) + ERRORS


def with_value(others, index, place, value):
    """What others tell with another value of one cell, as one read sees it."""
    told = [None if values is None else list(values) for values in others]
    told[index][place] = value
    return told


def near(spans):
    """The integers near the ends of what is told, and near 0."""
    found = set(range(-4, 5))
    for low, high in spans:
        for end in (low, high):
            if end is not None:
                found.update(range(end - 2, end + 3))
    return found


class LedBack(unittest.TestCase):
    def check(self, formula, index, place, others, lot, more=()):
        """What is told against working the formula out, near the ends of what is told and at errors and None."""
        kept = repr(others)
        told = led_back(formula, index, place, others, lot)
        self.assertEqual(repr(others), kept)
        self.assertIs(is_lot(told), True)
        for value in sorted(near(told[0]) | set(more)) + [None] + list(ERRORS):
            found = worked_out(formula, with_value(others, index, place, value))
            self.assertIs(in_lot(told, value), in_lot(lot, found), (formula, index, place, others, value, found))
        return told

    def each_lot(self, text, *others):
        """Each read and each place of a formula, with several lots."""
        formula = read_formula(text)
        self.assertEqual(len(reads(formula)), len(others), text)
        for index, values in enumerate(others):
            for place in range(len(values or [])):
                for pairs in ([], [(None, None)], [(0, 0)], [(5, 12)], [(-5, -1)], [(None, -3)], [(4, None)],
                              [(-2, 2), (6, 6), (9, 14)], [(None, -1), (1, None)], [(-FAR, -3), (7, FAR)]):
                    for empty, errors in ((True, ()), (False, ERRORS), (False, ("#zero",))):
                        lot = (Spans(pairs), empty, errors)
                        told = self.check(formula, index, place, list(others), lot, range(-30, 31))
                        junk = with_value(list(others), index, place, "#ring")
                        self.assertEqual(led_back(formula, index, place, junk, lot), told)

    def test_names(self):
        self.each_lot(".[0]", [4])
        self.each_lot("$1 head", [None])

    def test_ranges(self):
        for word in ("total", "many", "top", "low"):
            for values in ([0], [None], [3, 0], [3, None], [None, None], [-4, 9, 2], [1, 1, 1], [7, "#zero", 2], ["#lost", 1],
                           ["#ring", 5, "#zero"], [10 ** 70, 3]):
                self.each_lot(f"{word}(.[:])", values)

    def test_sums_and_their_like(self):
        for word in ("sum", "most", "least"):
            for text, others in (("(.[0])", ([1],)), ("(.[0], 5)", ([1],)), ("(-5, .[0])", ([1],)), ("(.[0], $0[0])", ([1], [4])),
                                 ("(.[0], $0[0])", ([1], [None])), ("(empty, .[0], empty)", ([1],)), ("(.[0], .[0])", ([1], [1])),
                                 ("(.[0], $0[0], 7)", ([2], ["#zero"])), ("($0[0], .[0], ?[0])", (["#lost"], [3], None)),
                                 ("(?[0], .[0])", (None, [3])), ("(.[0], total(.[:]))", ([3], [3, 9])), ("(over(1, 0), .[0])", ([3],)),
                                 ("(.[0], over(1, 0))", ([3],)), ("(.[-1], .[1])", ([], [3]))):
                self.each_lot(word + text, *others)

    def test_times(self):
        for number in (0, 1, -1, 2, -2, 3, -7, FAR, -FAR):
            self.each_lot(f"times({number}, .[0])", [1])
        self.each_lot("times(3, sum(.[0], 1))", [1])

    def test_over(self):
        for number in (0, 1, -1, 2, -2, 5, -5, 12, -12, 29):
            self.each_lot(f"over(.[0], {number})", [1])
            self.each_lot(f"over({number}, .[0])", [1])
        self.each_lot("over(.[0], empty)", [1])
        self.each_lot("over(empty, .[0])", [1])
        self.each_lot("over(.[0], .[0])", [5], [5])
        self.each_lot("over(.[0], $0[0])", [5], ["#lost"])
        self.each_lot("over(.[0], $0[0])", ["#ring"], ["#lost"])

    def test_over_at_every_quotient(self):
        for number in list(range(-14, 15)) + [997, -997]:
            for low in range(-16, 17):
                for wide in (0, 1, 5):
                    lot = (Spans([(low, low + wide)]), False, ())
                    for text in (f"over({number}, .[0])", f"over(.[0], {number})"):
                        self.check(read_formula(text), 0, 0, [[1]], lot, range(-20, 21))

    def test_case(self):
        for sign in SIGNS:
            for one, other, then, rest in ((3, 5, 1, 2), (5, 3, 1, 2), (4, 4, 0, 7), (None, 0, None, 1), (0, None, 9, 9),
                                           (1, "#zero", 3, 4), ("#ring", 1, 3, 4), (2, 1, "#lost", 4), (2, 1, 3, "#zero")):
                self.each_lot(f"case(.[0] {sign} $0[0], .[-1], .[1])", [one], [other], [then], [rest])
        self.each_lot("case(.[0] < .[0], .[0], sum(.[0], 1))", [4], [4], [4], [4])
        self.each_lot("case(.[0] = 3, over(1, 0), ?[0])", [4], None)
        self.each_lot("case(?[0] = 3, .[0], .[0])", None, [4], [4])
        self.each_lot("case(1 < 2, .[0], ?[0])", [4], None)

    def test_deep(self):
        self.each_lot("over(100, sum(times(-3, most(.[0], -5)), 1))", [4])
        self.each_lot("case(over(60, .[0]) >= 7, times(2, .[0]), least(.[0], 3))", [4], [4], [4])
        self.each_lot("most(case(sum(.[0], 1) <> 4, over(.[0], 2), empty), over(7, $0[0]))", [4], [4], [0])
        self.each_lot("sum(total(.[:]), over(top(.[:]), low(.[:])), many(.[:]))", [2, 5], [2, 5], [2, 5], [2, 5])

    def test_drawn(self):
        draw = Draw(1330)
        asked = 0
        for _ in range(1500):
            formula = draw.formula("body", 4)
            told = {}
            for read in reads(formula):
                if read[1] == ("lost",):
                    told[read] = None
                elif read not in told:
                    many = 1 if read[0] == "name" else draw.number(0, 3)
                    told[read] = [draw.one(PLAIN) for _ in range(many)]
            others = [told[read] for read in reads(formula)]
            places = [(index, place) for index, values in enumerate(others) for place in range(len(values or []))]
            if len(places) > 20 or not places:
                continue
            index, place = draw.one(places)
            self.check(formula, index, place, others, draw.lot(), [draw.number(-FAR, FAR), FAR, -FAR])
            asked += 1
        self.assertGreater(asked, 500)

    def test_drawn_that_hang_on_the_read(self):
        draw = Draw(1331)
        for _ in range(1500):
            formula = draw.formula_of(("name", ("at", 0), ("by", 0)), 4, 30)
            self.check(formula, 0, 0, [[None]], draw.lot(), range(-40, 41))

    def test_what_is_told_of_the_cell_means_nothing(self):
        for text, index, place, others in (("sum(total(.[:]), .[0])", 0, 1, [[4, 5], [7]]), ("most(over(.[0], 2), $0[0])", 0, 0, [[1], [2]]),
                                           ("case(1 < $0[0], top(.[:]), 3)", 1, 0, [[9], [3, 4]])):
            formula, lot = read_formula(text), (Spans([(4, 9)]), True, ("#lost",))
            told = led_back(formula, index, place, others, lot)
            for junk in ("nothing", None, (), [], True, {1: 2}):
                self.assertEqual(led_back(formula, index, place, with_value(others, index, place, junk), lot), told)

    def test_long_integers(self):
        lot = (Spans([(10 ** 60, 10 ** 61)]), False, ())
        self.assertEqual(led_back(read_formula("over(.[0], -1000000000000)"), 0, 0, [[1]], lot)[0].pairs(),
                         [(-(10 ** 73) - 10 ** 12 + 1, -(10 ** 72))])
        self.assertEqual(led_back(read_formula("sum(.[0], $0[0])"), 0, 0, [[1], [10 ** 80]], lot)[0].pairs(),
                         [(10 ** 60 - 10 ** 80, 10 ** 61 - 10 ** 80)])

    def test_all_and_none(self):
        draw = Draw(1332)
        for _ in range(100):
            formula = draw.formula_of(("name", ("at", 0), ("by", 0)), 4)
            self.assertEqual(led_back(formula, 0, 0, [[None]], ALL), ALL)
            self.assertEqual(led_back(formula, 0, 0, [[None]], NONE), NONE)


if __name__ == "__main__":
    unittest.main()
