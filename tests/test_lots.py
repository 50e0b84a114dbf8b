"""[132] lots: sets of integers, the empty value and errors."""

import unittest

from longsheet.lots import all_values, both_lots, in_lot, is_lot, lot_of, other_lot
from longsheet.spans import Spans
from tests.things import FAR, Draw, more_values, nested

ERRORS = ("#lost", "#ring", "#zero")
VALUES = list(range(-25, 26)) + [None, FAR, -FAR, 10 ** 59] + list(ERRORS)


def held(lot):
    return [value for value in VALUES if in_lot(lot, value)]


class IsLot(unittest.TestCase):
    def test_told(self):
        for thing in ((Spans([]), False, ()), (Spans([(None, None)]), True, ERRORS), (Spans([(1, 2)]), True, ("#zero",)),
                      (Spans([]), True, ("#lost", "#zero")), (Spans([]), True, ("#lost", "#ring"))):
            self.assertIs(is_lot(thing), True, thing)
        spans = Spans([(0, 0)])
        for thing in ((spans, 1, ()), (spans, 0, ()), (spans, None, ()), (spans, True, []), (spans, True, ["#lost"]),
                      (spans, True, ("#lost", "#lost")), (spans, True, ("#ring", "#lost")), (spans, True, ("#nothing",)),
                      (spans, True, (None,)), (spans, True, "#lost"), (spans, True, {"#lost"}), (spans, True), (spans, True, (), ()),
                      [spans, True, ()], ([(0, 0)], True, ()), (((0, 0),), True, ()), (None, True, ()), (spans, True, (["#lost"],)),
                      (spans, True, ({},)), (spans, True, ("#lost", 1)), (spans, True, ("#zero", "#ring", "#lost")),
                      (spans, "True", ()), (True, spans, ()), spans, (spans, False, None)):
            self.assertIs(is_lot(thing), False, thing)

    def test_any_value(self):
        for thing in more_values() + [nested(30)]:
            told = isinstance(thing, tuple) and len(thing) == 3 and isinstance(thing[0], Spans)
            self.assertIs(is_lot(thing), told, thing)


class Lots(unittest.TestCase):
    def test_in_lot(self):
        lot = (Spans([(None, -3), (2, 2)]), False, ("#ring",))
        for value, told in ((-3, True), (-(10 ** 59), True), (-2, False), (2, True), (3, False), (0, False), (None, False),
                            ("#ring", True), ("#lost", False), ("#zero", False)):
            self.assertIs(in_lot(lot, value), told, value)
        self.assertIs(in_lot((Spans([]), True, ()), None), True)
        self.assertIs(in_lot((Spans([(0, 0)]), False, ()), None), False)

    def test_all_values(self):
        self.assertEqual(all_values(), (Spans([(None, None)]), True, ERRORS))
        self.assertEqual(held(all_values()), VALUES)
        self.assertIs(is_lot(all_values()), True)

    def test_lot_of(self):
        for value in VALUES:
            lot = lot_of(value)
            self.assertIs(is_lot(lot), True)
            self.assertEqual(held(lot), [value])
        self.assertEqual(lot_of(7), (Spans([(7, 7)]), False, ()))
        self.assertEqual(lot_of(None), (Spans([]), True, ()))
        self.assertEqual(lot_of("#zero"), (Spans([]), False, ("#zero",)))

    def test_drawn(self):
        draw = Draw(1320)
        for _ in range(200):
            one, other = draw.lot(), draw.lot()
            self.assertEqual(held(other_lot(one)), [value for value in VALUES if not in_lot(one, value)])
            self.assertEqual(held(both_lots(one, other)), [value for value in held(one) if value in held(other)])
            for lot in (other_lot(one), both_lots(one, other)):
                self.assertIs(is_lot(lot), True)
            self.assertEqual(other_lot(other_lot(one)), one)
            self.assertEqual(both_lots(one, all_values()), one)
            self.assertEqual(both_lots(one, other_lot(one)), (Spans([]), False, ()))


if __name__ == "__main__":
    unittest.main()
