"""[91] far: values and sums of rising sheets at rows that none goes through."""

import unittest

from longsheet.errors import NoPlan, NotLinear
from longsheet.far import far_total, far_value
from longsheet.formulas import reads
from longsheet.names import column_of
from longsheet.rising import first_values
from longsheet.sheets import Sheet
from longsheet.working import worked_out
from tests.test_rising import bodies
from tests.things import Draw

FAR = 10 ** 30
MODULI = (1, 2, 3, 7, 10, 12, 1000, 10 ** 9, 10 ** 9 - 1)


class Near(unittest.TestCase):
    def test_against_first_values(self):
        draw = Draw(910)
        below = 0
        for _ in range(60):
            sheet = draw.rising_sheet()
            flows = draw.flows(sheet, 4)
            told = first_values(sheet, flows, 60)
            for column in range(len(sheet)):
                for row in (0, 1, 2, 3, 4, 5, 6, draw.number(7, 58), 59):
                    for modulus in (draw.one(MODULI), draw.number(1, 10 ** 9)):
                        value, total = told[row][column], sum(line[column] for line in told[:row + 1])
                        below += value < 0
                        self.assertEqual(far_value(sheet, flows, column, row, modulus), value % modulus,
                                         (sheet.columns(), flows, row))
                        self.assertEqual(far_total(sheet, flows, column, row, modulus), total % modulus)
        self.assertGreater(below, 100)

    def test_each_row(self):
        sheet = bodies("input", "sum(.[-3], total($0[:-2]), times(-1, $2[0]))", "sum(total($1[-2:-1]), $0[-1], total(.[:-3]))")
        flows = ({0: 5, 1: -4, 2: 3}, {0: [1, -2, 3, 4]})
        told = first_values(sheet, flows, 60)
        for row in range(60):
            self.assertEqual([far_value(sheet, flows, column, row, 10 ** 9) for column in range(3)],
                             [one % 10 ** 9 for one in told[row]])
            self.assertEqual([far_total(sheet, flows, column, row, 997) for column in range(3)],
                             [sum(line[column] for line in told[:row + 1]) % 997 for column in range(3)])

    def test_below_nought(self):
        sheet = bodies("sum(.[-1], -1)")
        self.assertEqual([far_value(sheet, ({}, {}), 0, row, 10) for row in (0, 1, 9, 10, 59)], [9, 8, 0, 9, 0])
        self.assertEqual(far_value(sheet, ({}, {}), 0, FAR, 7), (-FAR - 1) % 7)
        self.assertEqual(far_total(sheet, ({}, {}), 0, FAR, 10 ** 9), (-(FAR + 1) * (FAR + 2) // 2) % 10 ** 9)


class Far(unittest.TestCase):
    def test_told(self):
        self.assertEqual(far_value(bodies("sum(times(2, .[-1]), 1)"), ({}, {}), 0, FAR, 10 ** 9),
                         (pow(2, FAR + 1, 10 ** 9) - 1) % 10 ** 9)
        self.assertEqual(far_value(bodies("5"), ({}, {}), 0, FAR, 3), 2)
        lists = ({}, {0: [1, 2, 3, 4]})
        self.assertEqual([far_value(bodies("input"), lists, 0, FAR + more, 10) for more in range(4)], [1, 2, 3, 4])
        self.assertEqual(far_total(bodies("input"), lists, 0, FAR - 1, 10 ** 9), (FAR // 4 * 10) % 10 ** 9)
        self.assertEqual(far_value(bodies(".[-1]"), ({0: 7}, {}), 0, FAR, 100), 7)
        self.assertEqual(far_value(bodies("$0 head"), ({0: -7}, {}), 0, FAR, 100), 93)
        self.assertEqual(far_value(bodies("empty"), ({0: 7}, {}), 0, FAR, 100), 0)

    def test_lists_of_four_lengths(self):
        sheet = bodies("input", "input", "input", "sum($0[0], times(10, $1[0]), times(100, $2[0]))")
        flows = ({}, {0: [1, 2], 1: [1, 2, 3], 2: [1, 2, 3, 4]})
        for row in (FAR, FAR + 1, FAR - 5):
            self.assertEqual(far_value(sheet, flows, 3, row, 1000), 1 + row % 2 + 10 * (1 + row % 3) + 100 * (1 + row % 4))
        many = FAR // 12 * 12
        self.assertEqual(far_total(sheet, flows, 3, many - 1, 10 ** 9), many // 12 * (18 + 240 + 3000) % 10 ** 9)

    def test_of_its_formula(self):
        draw = Draw(911)
        for _ in range(50):
            sheet = draw.rising_sheet()
            flows = draw.flows(sheet, 4)
            modulus = draw.one(MODULI)
            row = draw.one([FAR, FAR - 1, draw.number(10, 10 ** 30), draw.number(10, 100)])
            for column in range(len(sheet)):
                value = far_value(sheet, flows, column, row, modulus)
                body = sheet[column][1]
                if body == ("input",):
                    numbers = flows[1].get(column, [0])
                    self.assertEqual(value, numbers[row % len(numbers)] % modulus)
                else:
                    others = [self.seen(sheet, flows, read, column, row, modulus) for read in reads(body)]
                    self.assertEqual(value, (worked_out(body, others) or 0) % modulus, (sheet.columns(), row))
                total, ahead = [far_total(sheet, flows, column, at, modulus) for at in (row, row - 1)]
                self.assertEqual((total - ahead) % modulus, value)
                self.assertTrue(0 <= value < modulus and 0 <= total < modulus)
                for divisor in (1, 2, 3, 5):
                    if modulus % divisor == 0:
                        self.assertEqual(far_value(sheet, flows, column, row, divisor), value % divisor)
                        self.assertEqual(far_total(sheet, flows, column, row, divisor), total % divisor)

    def seen(self, sheet, flows, read, column, row, modulus):
        there = column_of(read, column)
        if read[0] == "name":
            if read[2] == ("head",):
                return [flows[0].get(there, 0)]
            return [far_value(sheet, flows, there, row + read[2][1], modulus)]
        low, high = read[2:]
        if low is None:
            return [far_total(sheet, flows, there, row + high, modulus)]
        return [far_value(sheet, flows, there, row + d, modulus) for d in range(low, high + 1)]

    def test_flows_by_turns(self):
        sheet = bodies("input", "sum(.[-1], $0[0])")
        one, other = ({1: 5}, {0: [1]}), ({}, {0: [2, 0, 1]})
        for _ in range(2):
            self.assertEqual(far_value(sheet, one, 1, FAR, 10 ** 9), (FAR + 6) % 10 ** 9)
            self.assertEqual(far_value(sheet, other, 1, 3 * 10 ** 20 - 1, 10 ** 9), 3 * 10 ** 20 % 10 ** 9)
        self.assertEqual([one, other], [({1: 5}, {0: [1]}), ({}, {0: [2, 0, 1]})])

    def test_four_columns_that_look_as_far_as_can_be(self):
        names = [f"${there}[{d}]" for there in range(4) for d in (-3, -2, -1)][:5]
        sheet = bodies(*[f"sum({', '.join(names[turn:] + names[:turn])}, total($0[:-3]))" for turn in range(4)])
        flows = ({column: column + 1 for column in range(4)}, {})
        told = first_values(sheet, flows, 60)
        self.assertEqual([far_value(sheet, flows, column, 59, 10 ** 9) for column in range(4)],
                         [one % 10 ** 9 for one in told[59]])
        self.assertIn(far_value(sheet, flows, 3, FAR, 10 ** 9), range(10 ** 9))


class Errors(unittest.TestCase):
    def test_in_their_order(self):
        for sheet, error, field in ((bodies("1", ".[1]", "most()"), NotLinear, (1, 0)), (bodies(".[0]"), NoPlan, 1),
                                    (bodies("$1[0]", "$0[0]"), NoPlan, 1),
                                    (bodies(".[0]", ".[-4]"), NotLinear, (1, 0)),
                                    (bodies(".[0]", ".[-4]", "1", "1", "1"), NotLinear, (4, 0))):
            for asked in (far_value, far_total):
                for row in (0, FAR):
                    with self.assertRaises(error) as caught:
                        asked(sheet, ({}, {}), 0, row, 10)
                    self.assertEqual(list(vars(caught.exception).values()), [field])

    def test_heads_that_cannot_be_reckoned(self):
        sheet = Sheet([(("over", ("number", 1), ("empty",)), ("name", ("by", 0), ("by", -1)), ("empty",))])
        self.assertEqual(far_value(sheet, ({0: 4}, {}), 0, FAR, 9), 4)


if __name__ == "__main__":
    unittest.main()
