"""[22] names."""

import unittest

from longsheet.names import column_of, is_name, is_range, with_column
from tests.things import nested, some_values

COLUMNS = [("by", 0), ("by", 7), ("by", -7), ("by", 10 ** 30), ("at", 0), ("at", 7), ("at", 10 ** 30), ("lost",)]
ROWS = [("by", 0), ("by", -5), ("by", 10 ** 30), ("head",), ("foot",), ("last", 0), ("last", 5), ("last", 10 ** 30)]
ENDS = [None, 0, 1, -5, 10 ** 30, -(10 ** 30)]
BAD_PARTS = [("by",), ("by", True), ("by", None), ("by", "1"), ("by", 1, 2), ["by", 1], "by", None, (), 0, ("By", 0),
             ("at",), ("lost", 0), (b"by", 0), (("by",), 0), ("by", (0,)), {"by": 0}, ("up", 0), ("lost")]
BAD_COLUMNS = BAD_PARTS + [("at", -1), ("at", True), ("at", None), ("head",), ("last", 0), ("foot",), ["lost"]]
BAD_ROWS = BAD_PARTS + [("at", 0), ("lost",), ("last", -1), ("last", False), ("last",), ("head", 0), ["head"]]
BAD_ENDS = [True, False, "0", (), (0,), [0], {}, b"", "", ("by", 0)]


class Names(unittest.TestCase):
    def test_names(self):
        for column in COLUMNS:
            for row in ROWS:
                self.assertIs(is_name(("name", column, row)), True)
                self.assertIs(is_range(("name", column, row)), False)

    def test_ranges(self):
        for column in COLUMNS:
            for low in ENDS:
                for high in ENDS:
                    self.assertIs(is_range(("rows", column, low, high)), True)
                    self.assertIs(is_name(("rows", column, low, high)), False)

    def test_names_but_for_one_thing(self):
        for column in BAD_COLUMNS:
            self.assertIs(is_name(("name", column, ("by", 0))), False, column)
            self.assertIs(is_range(("rows", column, 0, 1)), False, column)
        for row in BAD_ROWS:
            self.assertIs(is_name(("name", ("by", 0), row)), False, row)
        for end in BAD_ENDS:
            self.assertIs(is_range(("rows", ("by", 0), end, 1)), False, end)
            self.assertIs(is_range(("rows", ("by", 0), None, end)), False, end)

    def test_forms_but_for_one_thing(self):
        column, row = ("by", 0), ("by", 0)
        for thing in (["name", column, row], ("name", column), ("name", column, row, row), ("names", column, row),
                      ("rows", column, row), (column, row), ("", column, row), (None, column, row),
                      (b"name", column, row), ("name", row), (("name",), column, row)):
            self.assertIs(is_name(thing), False, thing)
        for thing in (["rows", column, 0, 1], ("rows", column, 0), ("rows", column, 0, 1, 2), ("row", column, 0, 1),
                      ("name", column, 0, 1), (None, column, 0, 1), ("rows", column), (0, column, 0, 1)):
            self.assertIs(is_range(thing), False, thing)

    def test_any_value(self):
        for thing in some_values() + [nested(30), ["name"] * 4999]:
            self.assertIs(is_name(thing), False, thing)
            self.assertIs(is_range(thing), False, thing)

    def test_column_of(self):
        for rest in ((("by", -1),), (("head",),)):
            self.assertEqual(column_of(("name", ("by", 2)) + rest, 3), 5)
            self.assertEqual(column_of(("name", ("by", -4)) + rest, 3), -1)
            self.assertEqual(column_of(("name", ("by", 0)) + rest, 3), 3)
            self.assertEqual(column_of(("name", ("at", 7)) + rest, 3), 7)
            self.assertEqual(column_of(("name", ("at", 0)) + rest, 3), 0)
            self.assertIsNone(column_of(("name", ("lost",)) + rest, 3))
        self.assertEqual(column_of(("rows", ("by", 6), None, None), 7), 13)
        self.assertEqual(column_of(("rows", ("at", 1), 0, 0), 0), 1)
        self.assertIsNone(column_of(("rows", ("lost",), 0, 0), 0))

    def test_with_column(self):
        for part in (("by", 3), ("at", 2), ("lost",)):
            self.assertEqual(with_column(("name", ("by", 0), ("last", 2)), part), ("name", part, ("last", 2)))
            self.assertEqual(with_column(("rows", ("lost",), None, 4), part), ("rows", part, None, 4))


if __name__ == "__main__":
    unittest.main()
