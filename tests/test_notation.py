"""[24] notation by distance and [25] notation by letters."""

import unittest

from longsheet.errors import Beyond, NoText
from longsheet.formulas import fits, is_formula, reads
from longsheet.names import column_of
from longsheet.notation import read_at, read_formula, show_at, show_formula
from tests.things import FAR, Draw, some_values

TEXTS = {
    "0": ("number", 0),
    "-12": ("number", -12),
    "1000000000000": ("number", FAR),
    "-1000000000000": ("number", -FAR),
    "empty": ("empty",),
    "input": ("input",),
    ".[0]": ("name", ("by", 0), ("by", 0)),
    ".[-1]": ("name", ("by", 0), ("by", -1)),
    ">2[10]": ("name", ("by", 2), ("by", 10)),
    "<2 head": ("name", ("by", -2), ("head",)),
    "$0 head": ("name", ("at", 0), ("head",)),
    "$12 foot": ("name", ("at", 12), ("foot",)),
    "? last 3": ("name", ("lost",), ("last", 3)),
    ">1 last 0": ("name", ("by", 1), ("last", 0)),
    "sum()": ("sum", ()),
    "most(1)": ("most", (("number", 1),)),
    "least(empty, input, .[0])": ("least", (("empty",), ("input",), ("name", ("by", 0), ("by", 0)))),
    "times(-3, . head)": ("times", -3, ("name", ("by", 0), ("head",))),
    "over(1, sum(2, 3))": ("over", ("number", 1), ("sum", (("number", 2), ("number", 3)))),
    "case(1 <> 2, 3, 4)": ("case", ("number", 1), "<>", ("number", 2), ("number", 3), ("number", 4)),
    "case(. head < <1[0], 3, 4)": ("case", ("name", ("by", 0), ("head",)), "<", ("name", ("by", -1), ("by", 0)),
                                   ("number", 3), ("number", 4)),
    "total(.[:-1])": ("total", ("rows", ("by", 0), None, -1)),
    "many(<1[:])": ("many", ("rows", ("by", -1), None, None)),
    "top($3[-2:5])": ("top", ("rows", ("at", 3), -2, 5)),
    "low(?[0:])": ("low", ("rows", ("lost",), 0, None)),
}
BAD_TEXTS = [
    "", " ", "0 ", " 0", "00", "01", "-0", "-01", "+1", "--1", "-", "1.5", "1e3", "1000000000001", "-1000000000001",
    "9" * 61, "0" * 61, "Empty", "emptyinput", "empty ", "input()", "inputs", "in", ".", ".[", ".[]", ".[0", ".0]",
    ".[00]", ".[-0]", ".[+1]", ".[0] ", ". [0]", ".[ 0]", ".[0 ]", ".head", ".  head", ". heads", ". Head", ". last",
    ". last ", ". last -1", ". last 01", ". last  1", ". last1", ". foot 1", ". tail", ">0[0]", "<0[0]", ">[0]",
    ">-1[0]", "<-1[0]", ">01[0]", "$[0]", "$-1[0]", "$00[0]", "$ 1[0]", "?0[0]", "..[0]", "[0]", "head", ".[:]",
    ".[0:1]", "(1)", "sum", "sum(", "sum)", "sum( )", "sum(1,2)", "sum(1 ,2)", "sum(1,  2)", "sum(1, 2", "sum(1, )",
    "sum(, 1)", "sum(,)", "sum(1))", "sum((1))", "sum (1)", "sum[1]", "SUM(1)", "sum(.[:])", "max(1)", "total(1)",
    "total()", "total(.[0])", "total(. head)", "total(.[:], .[:])", "total(.[ :])", "total(.[:-0])", "total(.[01:])",
    "total(.[::])", "total(.[:)", "total .[:]", "times(1)", "times(1, 2, 3)", "times(.[0], 1)", "times(empty, 1)",
    "times(1000000000001, 1)", "times(1,1)", "times()", "over()", "over(1)", "over(1, 2, 3)", "case()", "case(1)",
    "case(1 = 2)", "case(1 = 2, 3)", "case(1 = 2, 3, 4, 5)", "case(1=2, 3, 4)", "case(1 == 2, 3, 4)",
    "case(1  = 2, 3, 4)", "case(1 = 2,3, 4)", "case(1 =< 2, 3, 4)", "case(1 => 2, 3, 4)", "case(1, 2, 3)",
    "case(1 ! 2, 3, 4)", "0\n", "\n0", "sum(1,\n2)", "1, 2", "1 2", "b4", "$b$0", "total(b:)", "None", "~", "sum(",
]
SIGNS = "0129-.<>$?[]():, =abemnopt\n"


class Cases(unittest.TestCase):
    def refused(self, line, asked, *args):
        with self.assertRaises(NoText) as caught:
            asked(*args)
        self.assertEqual(caught.exception.line, line, args)

    def others(self, text):
        """The texts with one sign otherwise, one put in, one taken out."""
        for at in range(len(text) + 1):
            for sign in SIGNS:
                yield text[:at] + sign + text[at:]
                yield text[:at] + sign + text[at + 1:]
            yield text[:at] + text[at + 1:]


class ByDistance(Cases):
    def test_there_and_back(self):
        for text, formula in TEXTS.items():
            self.assertEqual(show_formula(formula), text)
            self.assertEqual(read_formula(text), formula)

    def test_every_sign_of_a_case(self):
        for sign in ("=", "<>", "<", "<=", ">", ">="):
            formula = ("case", ("number", 1), sign, ("name", ("by", -1), ("by", 0)), ("empty",), ("sum", ()))
            text = f"case(1 {sign} <1[0], empty, sum())"
            self.assertEqual(show_formula(formula), text)
            self.assertEqual(read_formula(text), formula)

    def test_drawn_there_and_back(self):
        draw = Draw(240)
        for _ in range(500):
            formula = draw.formula(None, 4, True)
            self.assertEqual(read_formula(show_formula(formula)), formula)

    def test_texts_that_no_formula_has(self):
        for text in BAD_TEXTS:
            self.refused(1, read_formula, text)

    def test_one_sign_otherwise(self):
        read = 0
        for text in TEXTS:
            for other in self.others(text):
                try:
                    formula = read_formula(other)
                except NoText as error:
                    self.assertEqual(error.line, 1)
                else:
                    read += 1
                    self.assertTrue(is_formula(formula), other)
                    self.assertEqual(show_formula(formula), other)
        self.assertGreater(read, 100)

    def test_sixty_digits(self):
        digits = "9" * 60
        far = int(digits)
        for text, formula in ((f"${digits} head", ("name", ("at", far), ("head",))),
                              (f".[-{digits}]", ("name", ("by", 0), ("by", -far))),
                              (f". last {digits}", ("name", ("by", 0), ("last", far))),
                              (f">{digits}[0]", ("name", ("by", far), ("by", 0))),
                              (f"total(<{digits}[-{digits}:{digits}])", ("total", ("rows", ("by", -far), -far, far)))):
            self.assertEqual(read_formula(text), formula)
            self.assertEqual(show_formula(formula), text)
            self.refused(1, read_formula, text.replace(digits, digits + "9"))

    def test_what_is_no_string(self):
        for thing in some_values():
            if not isinstance(thing, str):
                self.refused(0, read_formula, thing)
        self.refused(0, read_formula, b"0")
        self.refused(0, read_formula, ["0"])

    def test_any_string(self):
        for thing in [thing for thing in some_values() if isinstance(thing, str)] + ["sum(" * 1000, "(" * 3000, ")" * 90]:
            if thing not in TEXTS:
                self.refused(1, read_formula, thing)

    def test_thirty_brackets(self):
        for start, end in (("sum(", ")"), ("times(2, ", ")"), ("over(1, ", ")"), ("case(1 = 1, 2, ", ")")):
            for many in (1, 29, 30):
                text = start * many + ".[0]" + end * many
                self.assertEqual(show_formula(read_formula(text)), text)
                self.refused(1, read_formula, text[:-1])
                self.refused(1, read_formula, text + ")")
        text = "case(" * 30 + "1" + " = 2, 3, 4)" * 30
        self.assertEqual(show_formula(read_formula(text)), text)

    def test_brackets_beside_one_another(self):
        for text in ("sum(" + ", ".join(["sum()"] * 500) + ")", "sum(" * 30 + ", ".join(["most(1)"] * 90) + ")" * 30):
            self.assertEqual(show_formula(read_formula(text)), text)

    def test_long_texts(self):
        text = "sum(" + ", ".join(["-7"] * 4000) + ")"
        self.assertEqual(show_formula(read_formula(text)), text)


class ByLetters(Cases):
    def beyond(self, at, formula, column, row):
        with self.assertRaises(Beyond) as caught:
            show_at(formula, column, row)
        self.assertEqual(caught.exception.at, at)

    def both_ways(self, formula, text, column, row):
        self.assertEqual(show_at(formula, column, row), text)
        self.assertEqual(read_at(text, column, row), formula)

    def test_names(self):
        self.both_ways(("name", ("by", 0), ("by", 0)), "b4", 1, 3)
        self.both_ways(("name", ("by", -1), ("by", -3)), "a1", 1, 3)
        self.both_ways(("name", ("by", -1), ("by", -4)), "a0", 1, 3)
        self.both_ways(("name", ("at", 1), ("by", 2)), "$b6", 1, 3)
        self.both_ways(("name", ("by", 0), ("head",)), "b$0", 1, 3)
        self.both_ways(("name", ("at", 1), ("head",)), "$b$0", 1, 3)
        self.both_ways(("name", ("by", 25), ("by", 0)), "z1", 0, 0)
        self.both_ways(("name", ("by", -25), ("by", -1)), "a0", 25, 0)
        self.both_ways(("name", ("at", 25), ("by", 0)), "$z1000000000000000000000001", 3, 10 ** 24)

    def test_ranges(self):
        for part, start in ((("by", 0), "b"), (("at", 1), "$b")):
            for low, first in ((None, ""), (-2, "2"), (0, "4"), (-3, "1")):
                for high, last in ((None, ""), (0, "4"), (5, "9"), (-3, "1")):
                    text = f"total({start}{first}:{start if last else ''}{last})"
                    self.both_ways(("total", ("rows", part, low, high)), text, 1, 3)
        self.both_ways(("many", ("rows", ("by", -1), None, 0)), "many(a:a4)", 1, 3)
        self.both_ways(("top", ("rows", ("by", 1), -1, None)), "top(c3:)", 1, 3)
        self.both_ways(("low", ("rows", ("by", 0), None, None)), "low(b:)", 1, 3)

    def test_the_rest_is_as_by_distance(self):
        for text, formula in TEXTS.items():
            if not reads(formula) and fits(formula, "body"):
                self.both_ways(formula, text, 2, 9)
        self.both_ways(("case", ("name", ("by", 0), ("by", 0)), "<", ("name", ("by", 1), ("by", 0)), ("sum", ()),
                        ("times", 2, ("name", ("by", -1), ("head",)))), "case(b4 < c4, sum(), times(2, a$0))", 1, 3)

    def test_drawn_there_and_back(self):
        draw = Draw(250)
        written = 0
        for _ in range(800):
            formula = draw.formula("body", 3)
            column, row = draw.number(0, 25), draw.one([0, 1, 2, 7, 10 ** 20])
            try:
                text = show_at(formula, column, row)
            except Beyond as error:
                self.assertEqual(error.at, self.first_beyond(formula, column, row))
            else:
                written += 1
                self.assertIsNone(self.first_beyond(formula, column, row))
                self.assertEqual(read_at(text, column, row), formula)
        self.assertGreater(written, 300)

    def first_beyond(self, formula, column, row):
        for at, read in enumerate(reads(formula)):
            meant = column_of(read, column)
            if meant is None or meant not in range(26):
                return at
            if read[0] == "rows":
                numbers = [row + end + 1 for end in read[2:] if end is not None]
                if [number for number in numbers if number < 1]:
                    return at
            elif read[2][0] == "by" and row + read[2][1] + 1 < 0:
                return at
        return None

    def test_beyond(self):
        own = ("name", ("by", 0), ("by", 0))
        lost = ("name", ("lost",), ("by", 0))
        above = ("name", ("by", 0), ("by", -5))
        self.beyond(0, lost, 1, 3)
        self.beyond(1, ("sum", (own, ("name", ("lost",), ("head",)), lost)), 1, 3)
        self.beyond(2, ("sum", (own, own, ("total", ("rows", ("lost",), None, None)))), 1, 3)
        self.beyond(0, ("name", ("by", -1), ("by", 0)), 0, 3)
        self.beyond(0, ("name", ("by", 1), ("by", 0)), 25, 3)
        self.beyond(0, ("name", ("at", 26), ("head",)), 0, 3)
        self.beyond(1, ("over", own, above), 1, 3)
        self.assertEqual(show_at(above, 1, 4), "b0")
        self.beyond(0, ("low", ("rows", ("by", 0), -5, None)), 1, 4)
        self.beyond(0, ("low", ("rows", ("by", 0), None, -5)), 1, 4)
        self.beyond(0, ("low", ("rows", ("by", 0), 2, -5)), 1, 4)
        self.assertEqual(show_at(("low", ("rows", ("by", 0), -5, -5)), 1, 5), "low(b1:b1)")
        self.beyond(3, ("case", own, "=", own, ("many", ("rows", ("by", 0), 0, 0)), above), 1, 3)

    def test_what_no_formula_has_there(self):
        for text in BAD_TEXTS + ["b", "$b", "b$", "b$1", "b$00", "b00", "b01", "b-1", "b 4", "b4 ", "B4", "$$b4", "bb4",
                                 "b4$", "4b", "$b$0$", "b:", "b2:b4", "{4", "`4", "total(b4)", "total(b$0)",
                                 "total(b0:)", "total(b:b0)", "total(b0:b4)", "total(b2:c4)", "total(b2:$b4)",
                                 "total($b2:b4)", "total(b2:b)", "total(b:b)", "total(:b4)", "total(:)", "total(b2:4)",
                                 "total(b2:b$0)", "total(b$0:b4)", "total(b2 :b4)", "total(b2: b4)", "total(b02:)",
                                 ".[0]", "$0 head", "? head", "b foot", "b last 0", "sum(input)", "times(2, input)",
                                 "case(1 = 1, input, 2)", "b" + "9" * 61, "total(b" + "9" * 61 + ":)"]:
            if text not in ("b4", "$b$0", "total(b:)"):
                self.refused(1, read_at, text, 1, 3)

    def test_what_is_no_string(self):
        for thing in some_values():
            if not isinstance(thing, str):
                self.refused(0, read_at, thing, 0, 0)

    def test_one_sign_otherwise(self):
        read = 0
        for text in ("b4", "$b12", "a$0", "$c$0", "sum(a4, $b$0)", "total($a:$a3)", "low(b2:b4)", "many(c:)", "top(b9:)",
                     "case(b3 >= a0, -1, over(1, b2))", "times(3, b4)", "empty", "input"):
            for other in self.others(text):
                try:
                    formula = read_at(other, 1, 3)
                except NoText as error:
                    self.assertEqual(error.line, 1)
                else:
                    read += 1
                    self.assertTrue(fits(formula, "body"), other)
                    self.assertEqual(show_at(formula, 1, 3), other)
        self.assertGreater(read, 100)

    def test_filled_down_and_right(self):
        self.assertEqual(show_at(read_at("sum(a3, $a3, a$0, $a$0)", 1, 3), 2, 4), "sum(b4, $a4, b$0, $a$0)")
        self.assertEqual(show_at(read_at("total(a2:a4)", 1, 3), 4, 10 ** 12), "total(d999999999999:d1000000000001)")
        self.assertEqual(show_at(read_at("total($a:$a4)", 1, 3), 25, 0), "total($a:$a1)")
        self.assertEqual(show_at(read_at("b0", 0, 4), 24, 4), "z0")
        self.beyond(0, read_at("b0", 0, 4), 24, 3)
        self.beyond(0, read_at("b0", 0, 4), 25, 4)

    def test_thirty_brackets(self):
        text = "sum(1, " * 30 + "b4" + ")" * 30
        self.assertEqual(show_at(read_at(text, 1, 3), 2, 4), text.replace("b4", "c5"))
        self.refused(1, read_at, text[1:], 1, 3)


if __name__ == "__main__":
    unittest.main()
