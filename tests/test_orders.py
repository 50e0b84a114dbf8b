"""[60] orders."""

import unittest

from longsheet.errors import NoPlan
from longsheet.graph import Web
from longsheet.orders import first_late, is_plan, is_web_order, order_by, plan
from longsheet.parts import parts
from longsheet.rings import least_ring, ring_at
from longsheet.slopes import slope
from longsheet.walks import is_web_ring
from tests.things import Draw, cells_of, nested, plain_next, some_values

WEB = Web(3, [(0, 0, -1, -1), (1, 0, 2, 2), (1, 1, 1, 1), (2, 1, None, 0)])
PLAN = [([0], 1, {0: 0}), ([1], -1, {1: 0}), ([2], 0, {2: 0})]


class Plans(unittest.TestCase):
    def test_plans(self):
        self.assertEqual(plan(WEB), PLAN)
        self.assertIs(is_plan(WEB, PLAN), True)
        self.assertEqual(plan(Web(0, [])), [])
        self.assertIs(is_plan(Web(0, []), []), True)
        for thing in ([([0], 5, {0: -3}), ([1], -1, {1: 7}), ([2], 9, {2: 0})],
                      [([0], 1, {0: 0}), ([1], -2, {1: 10 ** 30}), ([2], -1, {2: 10 ** 40})]):
            self.assertIs(is_plan(WEB, thing), True, thing)
        wide = Web(2, [(0, 0, -1, -1), (1, 0, 2, 2)])
        self.assertIs(is_plan(wide, [([0, 1], 1, {0: 0, 1: 3})]), True)
        self.assertIs(is_plan(wide, [([0, 1], 1, {1: 3, 0: 0})]), True)
        self.assertIs(is_plan(wide, [([0, 1], 1, {0: 0, 1: 2})]), False)

    def test_with_one_thing_otherwise(self):
        first, second, third = PLAN
        for thing in ((first, second, third), [first, third, second], [second, first, third], [first, second],
                      [first, second, third, third], [first, second, ([2], 0, {2: 0, 1: 0})], [], [first, second, None],
                      [list(first), second, third], [first, second, third + (0,)], [first, second, ([2], 0)],
                      [first, second, third, ([], 0, {})], [([], 0, {}), first, second, third], [([0, 1], 1, {0: 0, 1: 0}), third],
                      [((0,), 1, {0: 0}), second, third], [([False], 1, {0: 0}), second, third],
                      [([0], True, {0: 0}), second, third], [([0], 1, {False: 0}), second, third],
                      [([0], 1, {0: False}), second, third], [([0], 0, {0: 0}), second, third],
                      [([0], -1, {0: 0}), second, third], [first, ([1], 1, {1: 0}), third], [first, second, ([3], 0, {3: 0})],
                      [first, second, ([2, 2], 0, {2: 0})], [first, second, ([-1], 0, {-1: 0})], {0: PLAN}, first,
                      [first, second, ("2", 0, {2: 0})], [first, second, ([2], {2: 0}, 0)], [first, second, ([2], 0, [(2, 0)])]):
            self.assertIs(is_plan(WEB, thing), False, thing)

    def test_columns_that_do_not_ascend(self):
        web = Web(2, [])
        self.assertIs(is_plan(web, [([0, 1], 0, {0: 0, 1: 0})]), True)
        self.assertIs(is_plan(web, [([1, 0], 0, {0: 0, 1: 0})]), False)
        self.assertIs(is_plan(web, [([1], 0, {1: 0}), ([0], 0, {0: 0})]), True)

    def test_any_value(self):
        for thing in some_values() + [nested(30)]:
            self.assertIs(is_plan(WEB, thing), False, thing)
        for thing in some_values():
            if not isinstance(thing, list) or thing:
                self.assertIs(is_plan(Web(0, []), thing), False, thing)

    def test_no_plan(self):
        for web, length in ((Web(1, [(0, 0, 0, 0)]), 1), (Web(2, [(0, 0, -2, -2), (0, 0, 3, 3)]), 5)):
            with self.assertRaises(NoPlan) as caught:
                plan(web)
            self.assertEqual(caught.exception.length, length)

    def test_told_plans_are_new(self):
        told = plan(WEB)
        told[0][0].append(1)
        told[1][2].clear()
        told.clear()
        self.assertEqual(plan(WEB), PLAN)


class Orders(unittest.TestCase):
    def test_order_by(self):
        self.assertEqual(order_by(PLAN, 0), [])
        self.assertEqual(order_by([], 30), [])
        self.assertEqual(order_by(PLAN, 2), [(0, 0), (0, 1), (1, 1), (1, 0), (2, 0), (2, 1)])

    def test_cells_of_one_moment(self):
        self.assertEqual(order_by([([0, 1], 0, {0: 0, 1: 0})], 2), [(0, 0), (0, 1), (1, 0), (1, 1)])
        self.assertEqual(order_by([([0, 2], 1, {0: 1, 2: 0})], 3), [(2, 0), (0, 0), (2, 1), (0, 1), (2, 2), (0, 2)])
        self.assertEqual(order_by([([0, 2], 1, {0: 0, 2: 0})], 2), [(0, 0), (2, 0), (0, 1), (2, 1)])
        self.assertEqual(order_by([([0, 1], -1, {0: 0, 1: 1})], 2), [(0, 1), (0, 0), (1, 1), (1, 0)])
        self.assertEqual(order_by([([1], -2, {1: -5}), ([0], 0, {0: 9})], 2), [(1, 1), (1, 0), (0, 0), (0, 1)])

    def test_is_web_order(self):
        order = order_by(PLAN, 2)
        self.assertIs(is_web_order(WEB, 2, order), True)
        self.assertIs(is_web_order(WEB, 2, [(1, 1), (1, 0), (0, 0), (0, 1), (2, 0), (2, 1)]), True)
        for thing in (tuple(order), order[:-1], order + [(2, 1)], order[::-1], order[1:] + order[:1], order[:-1] + [(2, 0)],
                      order[:-1] + [(2, True)], order[:-1] + [(2, 2)], order[:-1] + [[2, 1]], order[:-1] + [None],
                      order[:-1] + [(3, 0)], {cell: 0 for cell in order}, set(order), [(0, 1), (0, 0)] + order[2:],
                      order[:2] + [(1, 0), (1, 1)] + order[4:], order[:4] + [order[4]] * 2, [order], order + [None]):
            self.assertIs(is_web_order(WEB, 2, thing), False, thing)
        self.assertIs(is_web_order(WEB, 3, order), False)
        self.assertIs(is_web_order(WEB, 1, order), False)
        self.assertIs(is_web_order(Web(1, [(0, 0, 0, 0)]), 1, [(0, 0)]), False)
        for web, rows in ((WEB, 0), (Web(0, []), 0), (Web(0, []), 30)):
            self.assertIs(is_web_order(web, rows, []), True)
            self.assertIs(is_web_order(web, rows, ()), False)

    def test_any_value(self):
        for thing in some_values() + [nested(30)]:
            self.assertIs(is_web_order(WEB, 2, thing), False, thing)

    def test_first_late(self):
        self.assertIsNone(first_late(WEB, 2, order_by(PLAN, 2)))
        self.assertEqual(first_late(WEB, 2, [(0, 1), (0, 0), (1, 1), (1, 0), (2, 0), (2, 1)]), 0)
        self.assertEqual(first_late(WEB, 2, [(0, 0), (0, 1), (1, 1), (2, 1), (2, 0), (1, 0)]), 3)
        self.assertEqual(first_late(Web(1, [(0, 0, 0, 0)]), 2, [(0, 1), (0, 0)]), 0)
        self.assertIsNone(first_late(Web(0, []), 9, []))
        cells = [(0, 1), (0, 0)]
        self.assertEqual(first_late(Web(1, [(0, 0, -1, -1)]), 2, cells), 0)
        self.assertEqual(cells, [(0, 1), (0, 0)])

    def test_drawn_first_late(self):
        draw = Draw(600)
        for _ in range(150):
            web, rows = draw.web(3), draw.number(0, 4)
            cells = cells_of(web, rows)
            draw.random.shuffle(cells)
            late = [at for at, cell in enumerate(cells)
                    if any(other in cells[at:] for other in plain_next(web, rows, cell))]
            self.assertEqual(first_late(web, rows, cells), min(late, default=None))
            self.assertIs(is_web_order(web, rows, cells), not late)


class Together(unittest.TestCase):
    """What is said of one answer by another one."""

    def test_drawn(self):
        draw = Draw(601)
        plans = rings = 0
        for _ in range(300):
            web = draw.web()
            length = least_ring(web)
            if length is None:
                plans += 1
                told = plan(web)
                self.assertIs(is_plan(web, told), True)
                self.assertEqual(told, [(part,) + slope(web, part) for part in parts(web)])
                for rows in (0, 1, 4, 9):
                    order = order_by(told, rows)
                    self.assertIs(is_web_order(web, rows, order), True)
                    self.assertIsNone(first_late(web, rows, order))
                continue
            rings += 1
            with self.assertRaises(NoPlan) as caught:
                plan(web)
            self.assertEqual(caught.exception.length, length)
            self.assertIs(is_web_ring(web, length, ring_at(web, length)), True)
            self.assertIsNone(ring_at(web, length - 1))
        self.assertGreater(min(plans, rings), 50)


if __name__ == "__main__":
    unittest.main()
