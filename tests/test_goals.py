"""[100] goals: linear forms, solutions and bars."""

import itertools
import unittest

from longsheet.errors import NoGoal, NotLinear
from longsheet.goals import bar, form_at, is_bar, is_solution, solutions
from longsheet.reckoning import value_at, values
from longsheet.sheets import Sheet
from longsheet.values import plain
from tests import reckoner
from tests.test_reckoning import sheet_of
from tests.things import FAR, Draw, nested, some_values

# Three inputs at one row, with weights 6, -4, 10 in the foot of the first column, and one of weight 0.
SUMS = sheet_of("input | input | sum(times(6, . head), times(-4, total(.[:])), times(10, >1 head), 1, times(0, >2 head))",
                "input | empty | empty", "input | 3 | over(1, 2)")
INPUTS = [(0, -1), (0, 0), (1, -1)]
FOOT = (0, 1)


class Forms(unittest.TestCase):
    def test_told(self):
        self.assertEqual(form_at(SUMS, 1, FOOT), (1, {(0, -1): 6, (0, 0): -4, (1, -1): 10}))
        self.assertEqual(form_at(SUMS, 3, (0, 3)), (1, {(0, -1): 6, (0, 0): -4, (0, 1): -4, (0, 2): -4, (1, -1): 10}))
        self.assertEqual(form_at(SUMS, 1, (0, 0)), (0, {(0, 0): 1}))
        self.assertEqual([form_at(SUMS, 1, (1, 0)), form_at(SUMS, 1, (2, 0))], [(0, {}), (3, {})])
        sheet = sheet_of("input | sum(.[-1], .[-2]) | . last 0")
        self.assertEqual(form_at(sheet, 5, (0, 5)), (0, {(0, -1): 8}))
        self.assertEqual(form_at(sheet, 0, (0, 0)), (0, {(0, -1): 1}))

    def test_not_linear(self):
        sheet = sheet_of("input | most(. head) | sum(. last 0, 1)", "?  head | <1[-1] | total(<1[:])".replace("  ", " "),
                         "empty | ?[0] | total(.[:])",
                         "empty | total($9[:]) | 4", "empty | .[0] | sum(. last 0, 1)", "$7 head | . head | empty")
        for rows, linear in ((0, {(0, -1), (0, 0), (1, 0), (2, -1), (2, 0), (3, -1), (3, 0), (4, -1), (4, 0), (5, 0)}),
                             (1, {(0, -1), (1, 0), (2, -1), (3, -1), (3, 1), (4, -1), (5, 1)})):
            for address in sheet.addresses(rows):
                if address in linear:
                    form_at(sheet, rows, address)
                else:
                    for asked in (lambda: form_at(sheet, rows, address),
                                  lambda: is_solution(sheet, rows, {}, (address, 1), [], None),
                                  lambda: solutions(sheet, rows, {}, (address, 1), []),
                                  lambda: bar(sheet, rows, {}, (address, 1), []),
                                  lambda: is_bar(sheet, rows, {}, (address, 1), [], None)):
                        with self.assertRaises(NotLinear, msg=(rows, address)) as caught:
                            asked()
                        self.assertEqual(caught.exception.address, address)

    def test_parts_that_are_not_worked_out(self):
        # By its form alone: a case is not linear, whatever comes of it, nor is what hangs on one.
        sheet = sheet_of("input | case(1 = 1, . head, 2) | times(0, . last 0)")
        self.assertRaises(NotLinear, form_at, sheet, 1, (0, 1))
        self.assertEqual(form_at(sheet, 0, (0, 0)), (0, {}))

    def test_drawn(self):
        draw = Draw(1000)
        linear = 0
        for turn in range(120):
            sheet = draw.linear_sheet() if turn % 3 else draw.sheet()
            rows = draw.one([0, 1, 2, 4])
            rings = set(reckoner.on_rings(sheet, rows))
            contents = draw.contents(sheet, rows, True)
            told = values(sheet, rows, contents)
            for address in sheet.addresses(rows):
                try:
                    constant, weights = form_at(sheet, rows, address)
                except NotLinear as error:
                    self.assertEqual(error.address, address)
                    if turn % 3:
                        # These sheets have linear formulas alone, and no lost names.
                        self.assertTrue(({address} | reckoner.hanging(sheet, rows, address)) & rings)
                    continue
                linear += 1
                self.assertFalse(({address} | reckoner.hanging(sheet, rows, address)) & rings)
                self.assertEqual(plain(told[address]), constant + sum(weight * contents.get(at, 0) for at,
                                                                      weight in weights.items()))
                self.assertEqual(list(weights), sorted(weights))
                self.assertTrue(0 not in weights.values() and set(weights) <= set(sheet.inputs(rows)))
        self.assertGreater(linear, 500)


class Solutions(unittest.TestCase):
    def test_all_in_a_small_box_in_one_way(self):
        draw = Draw(1001)
        found = 0
        for _ in range(60):
            weights = [draw.one([0, 1, -1, 2, 3, -4, 6, 9, 10, -15]) for _ in range(draw.number(0, 3))]
            terms = "".join(f", times({weight}, ${at} head)" for at, weight in enumerate(weights))
            sheet = sheet_of(*["input | empty | empty"] * len(weights), f"empty | empty | sum(0{terms})")
            cell, moving = (len(weights), 0), [(at, -1) for at in range(len(weights))]
            draw.random.shuffle(moving)
            number = draw.number(-20, 20)
            box = [list(point) for point in itertools.product(range(-7, 8), repeat=len(moving))
                   if sum(weights[at] * one for (at, _), one in zip(moving, point)) == number]
            try:
                point, steps = solutions(sheet, 0, {}, (cell, number), moving)
            except NoGoal:
                self.assertEqual(box, [])
                self.assertIs(is_bar(sheet, 0, {}, (cell, number), moving, bar(sheet, 0, {}, (cell, number), moving)), True)
                continue
            self.assertIsNone(bar(sheet, 0, {}, (cell, number), moving))
            self.assertEqual(len(steps), len(moving) - any(weights))
            self.assertIs(is_solution(sheet, 0, {}, (cell, number), moving, point), True)
            for one in box:
                self.assertIs(is_solution(sheet, 0, {}, (cell, number), moving, one), True)
                self.assertEqual(len(self.ways(point, steps, one)), 1, (weights, number, point, steps, one))
                found += 1
            for step in steps:
                self.assertEqual(sum(weights[at] * one for (at, _), one in zip(moving, step)), 0)
        self.assertGreater(found, 300)

    def ways(self, point, steps, wished):
        """The ways in which the point and multiples of steps come to what is wished: by elimination, over fractions."""
        from fractions import Fraction
        lines = [[Fraction(step[at]) for step in steps] + [Fraction(wished[at] - point[at])] for at in range(len(point))]
        many, at = len(steps), 0
        for column in range(many):
            lead = [row for row in range(at, len(lines)) if lines[row][column] != 0]
            if not lead:
                return []
            lines[at], lines[lead[0]] = lines[lead[0]], lines[at]
            lines[at] = [one / lines[at][column] for one in lines[at]]
            for row in range(len(lines)):
                if row != at:
                    factor = lines[row][column]
                    lines[row] = [one - factor * other for one, other in zip(lines[row], lines[at])]
            at += 1
        if any(line[-1] != 0 for line in lines[at:]):
            return []
        times = [lines[row][-1] for row in range(many)]
        return [times] if all(one.denominator == 1 for one in times) else []

    def test_contents_stay(self):
        goal = (FOOT, 31)
        self.assertEqual(solutions(SUMS, 1, {(0, 0): 3, (1, -1): 3, (2, -1): 9, (0, 1): 5}, goal, [(0, -1)]), ([2], []))
        # What the moving ones have in contents means nothing.
        self.assertEqual(solutions(SUMS, 1, {(0, 0): 3, (1, -1): 3, (0, -1): 77}, goal, [(0, -1)]), ([2], []))
        self.assertRaises(NoGoal, solutions, SUMS, 1, {(0, 0): 2, (1, -1): 3}, goal, [(0, -1)])
        self.assertEqual(bar(SUMS, 1, {(0, 0): 2, (1, -1): 3}, goal, [(0, -1)]), 6)

    def test_none_to_be_moved(self):
        self.assertEqual(solutions(SUMS, 1, {}, (FOOT, 1), []), ([], []))
        self.assertRaises(NoGoal, solutions, SUMS, 1, {}, (FOOT, 2), [])
        self.assertEqual([bar(SUMS, 1, {}, (FOOT, 1), []), bar(SUMS, 1, {}, (FOOT, 2), [])], [None, 0])
        self.assertIs(is_solution(SUMS, 1, {}, (FOOT, 1), [], []), True)
        self.assertIs(is_solution(SUMS, 1, {}, (FOOT, 2), [], []), False)

    def test_weights_of_nought(self):
        moving = [(2, -1), (0, -1)]
        point, steps = solutions(SUMS, 1, {}, (FOOT, 13), moving)
        self.assertEqual([point[1], [step[1] for step in steps], abs(steps[0][0])], [2, [0], 1])
        self.assertEqual(solutions(SUMS, 1, {}, (FOOT, 1), [(2, -1)]), ([0], [[1]]))
        self.assertRaises(NoGoal, solutions, SUMS, 1, {}, (FOOT, 5), [(2, -1)])
        self.assertEqual([bar(SUMS, 1, {}, (FOOT, 5), [(2, -1)]), bar(SUMS, 1, {}, (FOOT, 12), moving)], [0, 6])

    def test_one_input_alone(self):
        for number, told in ((7, ([7], [])), (-(10 ** 50), ([-(10 ** 50)], []))):
            self.assertEqual(solutions(SUMS, 1, {(0, -1): 4}, ((0, -1), number), [(0, -1)]), told)
        self.assertRaises(NoGoal, solutions, SUMS, 1, {(0, -1): 4}, ((0, -1), 5), [(1, -1)])
        self.assertEqual(bar(SUMS, 1, {(0, -1): 4}, ((0, -1), 5), [(1, -1)]), 0)

    def test_great_weights(self):
        sheet = sheet_of("input | times(999999999989, .[-1]) | sum(. last 0, times(1000000000000, >1 last 0))",
                         "input | times(999999999961, .[-1]) | empty")
        moving = [(0, -1), (1, -1)]
        one, other = 999999999989 ** 20, 10 ** 12 * 999999999961 ** 20
        self.assertEqual(form_at(sheet, 20, (0, 20)), (0, {(0, -1): one, (1, -1): other}))
        point, steps = solutions(sheet, 20, {}, ((0, 20), 1), moving)
        self.assertEqual([point[0] * one + point[1] * other, len(steps), steps[0][0] * one + steps[0][1] * other], [1, 1, 0])
        self.assertIn([abs(part) for part in steps[0]], [[other, one]])

    def test_is_solution(self):
        goal = (FOOT, 13)
        for thing in ([2, 0, 0], [0, -3, 0], [1, 4, 11 - 9 + 0], [-3, 0, 3], [10 ** 30 * 5 + 2, 0, -3 * 10 ** 30]):
            right = 6 * thing[0] - 4 * thing[1] + 10 * thing[2] + 1 == 13
            self.assertIs(is_solution(SUMS, 1, {}, goal, INPUTS, thing), right, thing)
        for thing in ([2, 0], [2, 0, 0, 0], (2, 0, 0), [2, False, 0], [2, None, 0], [2, "0", 0], [[2, 0, 0]], [], None,
                      {0: 2, 1: 0, 2: 0}):
            self.assertIs(is_solution(SUMS, 1, {}, goal, INPUTS, thing), False, thing)
        for thing in some_values() + [nested(30)]:
            self.assertIs(is_solution(SUMS, 1, {}, goal, INPUTS, thing), False, thing)
        self.assertIs(is_solution(SUMS, 1, {}, ((0, -1), 1), [(0, -1)], [True]), False)


class Bars(unittest.TestCase):
    def test_is_bar(self):
        # The weights 6 and 10: what is lacking is 13.
        moving, goal = [(0, -1), (1, -1)], (FOOT, 14)
        self.assertEqual(bar(SUMS, 1, {}, goal, moving), 2)
        for thing, right in ((2, True), (1, False), (0, False), (-2, False), (3, False), (6, False), (True, False), ("2", False),
                             ([2], False), (None, False)):
            self.assertIs(is_bar(SUMS, 1, {}, goal, moving, thing), right, thing)
        # Of the weight 6 alone, 2, 3 and 6 are bars of 13, 2 and 6 of 9, and 6 and 3 of 4.
        for number, bars in ((14, [2, 3, 6]), (10, [2, 6]), (5, [3, 6]), (7, []), (1, [])):
            for thing in range(-7, 14):
                self.assertIs(is_bar(SUMS, 1, {}, (FOOT, number), [(0, -1)], thing), thing in bars, (number, thing))
        for number, thing, right in ((1, 0, False), (2, 0, True), (2, 5, False), (2, 2, False), (2, False, False),
                                     (4, -1, False)):
            self.assertIs(is_bar(SUMS, 1, {}, (FOOT, number), [(2, -1)], thing), right)
        for thing in some_values() + [nested(30)]:
            self.assertIs(is_bar(SUMS, 1, {}, goal, moving, thing), False, thing)

    def test_told_bars_are_bars(self):
        draw = Draw(1002)
        barred = 0
        for _ in range(100):
            moving = draw.random.sample(INPUTS + [(2, -1)], draw.number(0, 4))
            contents = {address: draw.number(-9, 9) for address in INPUTS}
            goal = (FOOT, draw.number(-30, 30))
            told = bar(SUMS, 1, contents, goal, moving)
            if told is None:
                point, steps = solutions(SUMS, 1, contents, goal, moving)
                for _ in range(5):
                    times = [draw.number(-3, 3) for _ in steps]
                    thing = [one + sum(many * step[at] for many, step in zip(times, steps)) for at, one in enumerate(point)]
                    later = dict(contents)
                    later.update(zip(moving, thing))
                    self.assertEqual(value_at(SUMS, 1, later, FOOT), goal[1])
            else:
                barred += 1
                self.assertIs(is_bar(SUMS, 1, contents, goal, moving, told), True)
                self.assertTrue(told == 0 or told >= 2)
                self.assertRaises(NoGoal, solutions, SUMS, 1, contents, goal, moving)
        self.assertTrue(20 < barred < 80)


class Whole(unittest.TestCase):
    def test_a_weight_that_is_not_nought_changes_at_some_contents(self):
        draw = Draw(1003)
        for _ in range(40):
            sheet, rows = draw.linear_sheet(), draw.number(0, 3)
            told = values(sheet, rows, {})
            if "#ring" in told.values() or not sheet.inputs(rows):
                continue
            address = draw.one(sheet.inputs(rows))
            for contents in ({}, draw.contents(sheet, rows)):
                one, other = [values(sheet, rows, {**contents, address: number}) for number in (0, 1)]
                for cell in told:
                    weight = form_at(sheet, rows, cell)[1].get(address, 0)
                    self.assertEqual(plain(other[cell]) - plain(one[cell]), weight)

    def test_far_numbers(self):
        self.assertEqual(form_at(sheet_of(f"input | times({FAR}, times({-FAR}, .[-1])) | . last 0"), 2, (0, 2)),
                         (0, {(0, -1): FAR ** 4}))
        self.assertRaises(NotLinear, form_at, Sheet([(("most", ()), ("empty",), ("empty",))]), 0, (0, -1))


if __name__ == "__main__":
    unittest.main()
