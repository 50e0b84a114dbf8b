"""[23] formulas."""

import unittest

from longsheet.formulas import depth, fits, is_formula, is_linear, parts, reads, with_reads
from longsheet.names import is_name, is_range
from tests.things import FAR, Draw, nested, some_values

ZERO, GIVEN, NONE = ("number", 0), ("input",), ("empty",)
HEAD = ("name", ("by", 1), ("head",))
FOOT = ("name", ("at", 0), ("foot",))
ABOVE = ("name", ("by", 0), ("by", -1))
LAST = ("name", ("by", -1), ("last", 0))
ROWS = ("rows", ("by", 0), None, -1)
ALL_ROWS = ("rows", ("by", 0), None, None)
SUM = ("sum", (ABOVE, ZERO))
CASE = ("case", ABOVE, "<=", HEAD, SUM, ("over", ZERO, LAST))
FORMULAS = [ZERO, ("number", FAR), ("number", -FAR), NONE, GIVEN, HEAD, FOOT, ABOVE, LAST, ("sum", ()), ("most", ()),
            ("least", ()), SUM, ("most", (SUM, SUM)), ("least", (GIVEN,)), ("times", FAR, SUM), ("times", -FAR, NONE),
            ("over", GIVEN, SUM), CASE, ("total", ROWS), ("many", ROWS), ("top", ALL_ROWS), ("low", ROWS)]


class AnyValue(unittest.TestCase):
    def test_formulas(self):
        for thing in FORMULAS:
            self.assertIs(is_formula(thing), True, thing)
        for sign in ("=", "<>", "<", "<=", ">", ">="):
            self.assertIs(is_formula(("case", ZERO, sign, NONE, ZERO, ZERO)), True)

    def test_drawn_formulas_of_four_deep(self):
        draw = Draw(23)
        deepest = 0
        for _ in range(300):
            thing = draw.formula(None, 4, True)
            deepest = max(deepest, depth(thing))
            self.assertIs(is_formula(thing), True, thing)
        self.assertEqual(deepest, 4)

    def test_forms_but_for_one_thing(self):
        for thing in FORMULAS:
            for other in (list(thing), thing + (ZERO,), thing + (None,), thing[:-1], (thing,), (thing[0] + "s",) +
                          thing[1:], (None,) + thing[1:], (thing[0].encode(),) + thing[1:], thing[::-1] + ((),),
                          (thing[0].upper(),) + thing[1:]):
                if other != NONE:
                    self.assertIs(is_formula(other), False, other)

    def test_numbers_but_for_one_thing(self):
        for number in (FAR + 1, -FAR - 1, True, False, None, "0", (), ZERO, 10 ** 59):
            self.assertIs(is_formula(("number", number)), False, number)
            self.assertIs(is_formula(("times", number, ZERO)), False, number)

    def test_parts_but_for_one_thing(self):
        for bad in (None, True, 0, "empty", [], (), ["empty"], ("number", True), ROWS, (ZERO,), ("sum", [ZERO])):
            for thing in (("sum", (bad,)), ("most", (ZERO, bad)), ("least", (bad, ZERO)), ("times", 2, bad),
                          ("over", bad, ZERO), ("over", ZERO, bad), ("case", bad, "=", ZERO, ZERO, ZERO),
                          ("case", ZERO, "=", bad, ZERO, ZERO), ("case", ZERO, "=", ZERO, bad, ZERO),
                          ("case", ZERO, "=", ZERO, ZERO, bad)):
                self.assertIs(is_formula(thing), False, thing)
        for bad in ([ZERO], {}, None, ZERO, "", 0, {ZERO}):
            for word in ("sum", "most", "least"):
                self.assertIs(is_formula((word, bad)), False, bad)

    def test_signs_and_ranges_but_for_one_thing(self):
        for sign in ("==", "", "!=", "=>", "<> ", None, 0, True, ("=",), b"=", ["="], "=\n"):
            self.assertIs(is_formula(("case", ZERO, sign, ZERO, ZERO, ZERO)), False, sign)
        for word in ("total", "many", "top", "low"):
            for bad in (ABOVE, None, list(ROWS), ROWS[1:], ROWS + (0,), ("rows", ("by", 0), True, 0), ZERO):
                self.assertIs(is_formula((word, bad)), False, bad)
        for bad in (("name", ("by", 0), ("at", 0)), ("name", ("by", True), ("head",)), ROWS, ("rows",)):
            self.assertIs(is_formula(bad), False, bad)

    def test_any_value(self):
        for thing in some_values() + [nested(30), ("sum",) * 4999, ("sum", (ZERO,) * 1600 + (None,))]:
            if thing != GIVEN:
                self.assertIs(is_formula(thing), False, thing)

    def test_many_parts(self):
        self.assertIs(is_formula(("sum", (ZERO,) * 1600)), True)
        thing = ZERO
        for _ in range(14):
            thing = ("sum", (thing,))
        self.assertIs(is_formula(thing), True)
        self.assertEqual(depth(thing), 14)


class Fits(unittest.TestCase):
    def where(self, formula):
        return "".join([place[0] for place in ("head", "body", "foot") if fits(formula, place)])

    def test_answers_are_truths(self):
        for formula in FORMULAS:
            for place in ("head", "body", "foot"):
                self.assertIsInstance(fits(formula, place), bool)

    def test_inputs(self):
        self.assertEqual(self.where(GIVEN), "hb")
        for formula in (("sum", (GIVEN,)), ("times", 1, GIVEN), ("over", ZERO, GIVEN), ("most", (ZERO, GIVEN)),
                        ("case", ZERO, "=", ZERO, ZERO, GIVEN), ("sum", (("sum", (("least", (GIVEN,)),)),))):
            self.assertEqual(self.where(formula), "", formula)

    def test_names(self):
        self.assertEqual(self.where(HEAD), "hbf")
        self.assertEqual(self.where(ABOVE), "b")
        self.assertEqual(self.where(FOOT), "f")
        self.assertEqual(self.where(LAST), "f")
        self.assertEqual(self.where(ZERO), "hbf")
        self.assertEqual(self.where(("sum", ())), "hbf")
        self.assertEqual(self.where(("sum", (HEAD, ABOVE))), "b")
        self.assertEqual(self.where(("sum", (LAST, ABOVE))), "")
        self.assertEqual(self.where(("sum", (LAST, FOOT, HEAD))), "f")
        self.assertEqual(self.where(("over", ("sum", (HEAD,)), ("times", 2, FOOT))), "f")

    def test_ranges(self):
        for word in ("total", "many", "top", "low"):
            self.assertEqual(self.where((word, ALL_ROWS)), "bf")
            for low, high in ((None, 0), (0, None), (-1, 1), (5, -5)):
                self.assertEqual(self.where((word, ("rows", ("lost",), low, high))), "b")

    def test_drawn(self):
        draw = Draw(24)
        for place in ("head", "body", "foot"):
            for _ in range(100):
                self.assertIs(fits(draw.formula(place), place), True)


class Parts(unittest.TestCase):
    def test_parts(self):
        for formula in (ZERO, NONE, GIVEN, HEAD, ("sum", ()), ("total", ROWS)):
            self.assertEqual(parts(formula), [])
            self.assertEqual(depth(formula), 0)
        self.assertEqual(parts(("sum", (SUM, ZERO, ZERO))), [SUM, ZERO, ZERO])
        self.assertEqual(parts(("most", (HEAD, LAST))), [HEAD, LAST])
        self.assertEqual(parts(("least", (HEAD,))), [HEAD])
        self.assertEqual(parts(("times", 3, SUM)), [SUM])
        self.assertEqual(parts(("over", SUM, ABOVE)), [SUM, ABOVE])
        self.assertEqual(parts(CASE), [ABOVE, HEAD, SUM, ("over", ZERO, LAST)])

    def test_parts_are_a_new_list(self):
        formula = ("sum", (ZERO, HEAD))
        for asked in (parts, reads):
            found = asked(formula)
            found.append(NONE)
            self.assertNotEqual(asked(formula), found)

    def test_reads(self):
        self.assertEqual(reads(ZERO), [])
        self.assertEqual(reads(GIVEN), [])
        self.assertEqual(reads(HEAD), [HEAD])
        self.assertEqual(reads(("low", ROWS)), [ROWS])
        self.assertEqual(reads(CASE), [ABOVE, HEAD, ABOVE, LAST])
        self.assertEqual(reads(("sum", (HEAD, HEAD, ("total", ROWS), HEAD))), [HEAD, HEAD, ROWS, HEAD])
        self.assertEqual(reads(("over", ("times", 2, LAST), ("most", (ABOVE, ("top", ALL_ROWS))))),
                         [LAST, ABOVE, ALL_ROWS])

    def test_depth(self):
        self.assertEqual([depth(SUM), depth(CASE), depth(("sum", ()))], [1, 2, 0])
        self.assertEqual(depth(("times", 1, ("sum", (("over", ZERO, ("most", (NONE,))), ZERO)))), 4)
        self.assertEqual(depth(("case", ZERO, "=", ZERO, ZERO, ("times", 1, ("times", 1, ZERO)))), 3)

    def test_linear(self):
        for formula in (ZERO, NONE, HEAD, ABOVE, FOOT, ("sum", ()), SUM, ("times", 0, SUM), ("total", ROWS), GIVEN,
                        ("sum", (("times", 2, ("total", ROWS)), NONE)), ("name", ("lost",), ("head",))):
            self.assertIs(is_linear(formula), True, formula)
        for formula in (("most", (ZERO,)), ("least", ()), ("over", ZERO, ZERO), CASE, ("many", ROWS), ("top", ROWS),
                        ("low", ROWS), ("sum", (GIVEN,)), ("times", 1, GIVEN), ("sum", (ZERO, ("many", ROWS))),
                        ("times", 0, ("over", ZERO, ZERO))):
            self.assertIs(is_linear(formula), False, formula)

    def test_with_reads(self):
        other = ("name", ("lost",), ("by", 5))
        self.assertEqual(with_reads(HEAD, [other]), other)
        self.assertEqual(with_reads(ZERO, []), ZERO)
        self.assertEqual(with_reads(GIVEN, []), GIVEN)
        self.assertEqual(with_reads(("low", ROWS), [ALL_ROWS]), ("low", ALL_ROWS))
        self.assertEqual(with_reads(("times", 4, ABOVE), [other]), ("times", 4, other))
        self.assertEqual(with_reads(CASE, [HEAD, LAST, FOOT, other]),
                         ("case", HEAD, "<=", LAST, ("sum", (FOOT, ZERO)), ("over", ZERO, other)))
        self.assertEqual(with_reads(("most", (HEAD, HEAD)), [ABOVE, LAST]), ("most", (ABOVE, LAST)))

    def test_with_drawn_reads(self):
        draw = Draw(25)
        for _ in range(300):
            formula = draw.formula(None, 4, True)
            asked = reads(formula)
            self.assertTrue(all(is_name(read) or is_range(read) for read in asked))
            self.assertEqual(with_reads(formula, asked), formula)
            others = [draw.read(None, read[0] == "rows") for read in asked]
            kept = list(others)
            changed = with_reads(formula, others)
            self.assertEqual(others, kept)
            self.assertEqual(reads(changed), others)
            self.assertEqual(with_reads(changed, asked), formula)


if __name__ == "__main__":
    unittest.main()
