"""[21] values."""

import unittest

from longsheet.values import first_error, is_error, is_integer, is_number, is_value, plain
from tests.things import FAR, nested, some_values


class Values(unittest.TestCase):
    def kinds(self, thing):
        return [is_integer(thing), is_number(thing), is_value(thing), is_error(thing)]

    def test_integers_and_numbers(self):
        for thing in (0, 1, -1, FAR, -FAR, FAR - 1):
            self.assertEqual(self.kinds(thing), [True, True, True, False])
        for thing in (FAR + 1, -FAR - 1, 10 ** 59, -(10 ** 59)):
            self.assertEqual(self.kinds(thing), [True, False, True, False])

    def test_truths_are_none(self):
        self.assertEqual(self.kinds(True), [False] * 4)
        self.assertEqual(self.kinds(False), [False] * 4)

    def test_empty_and_errors(self):
        self.assertEqual(self.kinds(None), [False, False, True, False])
        for thing in ("#lost", "#ring", "#zero"):
            self.assertEqual(self.kinds(thing), [False, False, True, True])

    def test_all_else(self):
        for thing in ("", "#", "#los", "#losts", "lost", "#Ring", "#zero\n", b"#zero", "0", ["#lost"], ("#lost",), [],
                      {}, {"#lost"}, {"#lost": 0}, (0,), [0], nested(30)):
            self.assertEqual(self.kinds(thing), [False] * 4)

    def test_answers_are_truths(self):
        for thing in some_values():
            for answer in self.kinds(thing):
                self.assertIsInstance(answer, bool)

    def test_plain(self):
        self.assertEqual(plain(None), 0)
        self.assertIs(type(plain(None)), int)
        for value in (0, 5, -10 ** 40, "#lost", "#ring", "#zero"):
            self.assertEqual(plain(value), value)

    def test_first_error(self):
        self.assertIsNone(first_error([]))
        self.assertIsNone(first_error([None, 0, -3]))
        self.assertEqual(first_error([None, 0, "#zero", "#lost"]), "#zero")
        self.assertEqual(first_error(["#ring", "#lost"]), "#ring")
        values = [1, "#lost"]
        self.assertEqual(first_error(values), "#lost")
        self.assertEqual(values, [1, "#lost"])


if __name__ == "__main__":
    unittest.main()
