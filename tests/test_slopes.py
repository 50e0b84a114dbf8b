"""[52] parts and [53] slopes."""

import itertools
import unittest

from longsheet.graph import Web
from longsheet.parts import parts, way
from longsheet.slopes import is_slope, slope
from tests.things import Draw, nested, some_values


def leads(web, start, goal):
    """Whether edges lead from one column to another one, in several steps perhaps."""
    reached = {start}
    while True:
        more = reached | {edge[1] for edge in web.edges() if edge[0] in reached}
        if more == reached:
            return goal in reached
        reached = more


def loop_sums(web, part):
    """The least and greatest sums of all simple loops of a part, None for those without end."""
    found = []
    for many in range(1, len(part) + 1):
        for columns in itertools.permutations(part, many):
            steps = [[edge for edge in web.edges() if edge[:2] == pair]
                     for pair in zip(columns, columns[1:] + columns[:1])]
            for edges in itertools.product(*steps):
                lows = [edge[2] for edge in edges]
                highs = [edge[3] for edge in edges]
                found.append((None if None in lows else sum(lows), None if None in highs else sum(highs)))
    return found


class Parts(unittest.TestCase):
    def test_without_edges(self):
        self.assertEqual(parts(Web(0, [])), [])
        self.assertEqual(parts(Web(3, [])), [[0], [1], [2]])
        self.assertEqual([way(Web(3, []), [column]) for column in range(3)], ["alone"] * 3)

    def test_order(self):
        self.assertEqual(parts(Web(3, [(0, 1, 0, 0), (1, 2, 0, 0)])), [[2], [1], [0]])
        self.assertEqual(parts(Web(4, [(0, 3, 0, 0), (1, 2, 0, 0)])), [[2], [1], [3], [0]])
        self.assertEqual(parts(Web(4, [(2, 0, 0, 0), (1, 3, 0, 0)])), [[0], [2], [3], [1]])
        self.assertEqual(parts(Web(5, [(0, 4, 1, 1), (4, 0, 1, 1), (4, 2, 0, 0), (1, 1, 0, 0)])), [[1], [2], [0, 4], [3]])
        self.assertEqual(parts(Web(4, [(3, 1, 0, 0), (1, 3, 0, 0), (0, 2, 0, 0), (2, 0, 0, 0), (0, 3, 0, 0)])),
                         [[1, 3], [0, 2]])
        self.assertEqual(parts(Web(8, [(at, (at + 1) % 8, None, None) for at in range(8)])), [list(range(8))])

    def test_told_lists_are_new(self):
        web = Web(2, [(0, 1, 0, 0), (1, 0, 0, 0)])
        told = parts(web)
        told[0].append(5)
        told.append([])
        self.assertEqual(parts(web), [[0, 1]])

    def test_drawn(self):
        draw = Draw(520)
        for _ in range(200):
            web = draw.web()
            told = parts(web)
            self.assertEqual(sorted(column for part in told for column in part), list(range(len(web))))
            for part in told:
                self.assertEqual(part, [column for column in range(len(web)) if leads(web, part[0], column)
                                        and leads(web, column, part[0])])
            for at, part in enumerate(told):
                could = [other for other in told[at:] if not any(
                    edge[0] in other and edge[1] not in other + sum(told[:at], []) for edge in web.edges())]
                self.assertEqual(part, min(could))


class Ways(unittest.TestCase):
    def test_one_column(self):
        for ends, told in (((-1, -1), "up"), ((-5, -2), "up"), ((None, -1), "up"), ((1, 1), "down"), ((1, None), "down"),
                           ((2, 5), "down"), ((0, 0), "ring"), ((-1, 1), "ring"), ((None, 0), "ring"), ((0, None), "ring"),
                           ((None, None), "ring"), ((-1, 0), "ring"), ((None, 5), "ring"), ((-5, None), "ring")):
            self.assertEqual(way(Web(1, [(0, 0) + ends]), [0]), told, ends)
            other = {"up": "down", "down": "up", "ring": "ring"}[told]
            self.assertEqual(way(~Web(1, [(0, 0) + ends]), [0]), other, ends)
        self.assertEqual(way(Web(1, [(0, 0, -1, -1), (0, 0, 1, 1)]), [0]), "ring")
        self.assertEqual(way(Web(1, [(0, 0, -1, -1), (0, 0, -3, -2)]), [0]), "up")

    def test_several_columns(self):
        self.assertEqual(way(Web(2, [(0, 1, 5, 5), (1, 0, -5, -5)]), [0, 1]), "ring")
        self.assertEqual(way(Web(2, [(0, 1, 4, 4), (1, 0, -5, -5)]), [0, 1]), "up")
        self.assertEqual(way(Web(2, [(0, 1, 5, 5), (1, 0, -4, -4)]), [0, 1]), "down")
        self.assertEqual(way(Web(2, [(0, 1, 5, None), (1, 0, -4, -4)]), [0, 1]), "down")
        self.assertEqual(way(Web(2, [(0, 1, None, 5), (1, 0, -4, -4)]), [0, 1]), "ring")
        self.assertEqual(way(Web(2, [(0, 1, None, 3), (1, 0, None, -4)]), [0, 1]), "up")
        ring = [(at, (at + 1) % 8, 5, 5) for at in range(7)]
        self.assertEqual(way(Web(8, ring + [(7, 0, -5, -5)]), list(range(8))), "down")
        for start, goes in ((5, "up"), (None, "ring")):
            ring = [(at, at + 1, -1, -1) for at in range(7)]
            self.assertEqual(way(Web(8, ring + [(7, 0, -5, start)]), list(range(8))), goes)

    def test_edges_to_other_parts_do_not_count(self):
        web = Web(3, [(0, 1, 5, 5), (1, 1, -1, -1), (1, 2, None, None)])
        self.assertEqual([way(web, [0]), way(web, [1]), way(web, [2])], ["alone", "up", "alone"])

    def test_drawn_by_all_loops(self):
        draw = Draw(521)
        told = {}
        for _ in range(200):
            web = draw.web(4)
            for part in parts(web):
                sums = loop_sums(web, part)
                expected = "ring"
                if not sums:
                    expected = "alone"
                elif all(high is not None and high < 0 for _, high in sums):
                    expected = "up"
                elif all(low is not None and low > 0 for low, _ in sums):
                    expected = "down"
                self.assertEqual(way(web, part), expected)
                told[expected] = told.get(expected, 0) + 1
        self.assertEqual(sorted(told), ["alone", "down", "ring", "up"])


class Slopes(unittest.TestCase):
    def test_alone_and_ring(self):
        web = Web(3, [(0, 1, None, None), (2, 2, 0, 0)])
        self.assertEqual([slope(web, [0]), slope(web, [1]), slope(web, [2])], [(0, {0: 0}), (0, {1: 0}), None])

    def test_up_and_down(self):
        self.assertEqual(slope(Web(1, [(0, 0, None, -3)]), [0]), (1, {0: 0}))
        self.assertEqual(slope(Web(1, [(0, 0, 1, None)]), [0]), (-1, {0: 0}))
        self.assertEqual(slope(Web(2, [(0, 1, 1, 1), (1, 0, -2, -2)]), [0, 1]), (2, {0: 3, 1: 0}))
        self.assertEqual(slope(Web(2, [(0, 1, -1, -1), (1, 0, 2, 2)]), [0, 1]), (-2, {0: 3, 1: 0}))
        self.assertIsNone(slope(Web(3, [(0, 2, 5, 5), (2, 1, 0, 0), (1, 0, -5, -5), (2, 2, -1, -1)]), [0, 1, 2]))
        self.assertEqual(slope(Web(3, [(0, 2, 4, 4), (2, 1, 0, 0), (1, 0, -5, -5), (2, 2, -1, -1)]), [0, 1, 2]),
                         (3, {0: 14, 1: 0, 2: 1}))

    def test_told_dicts_are_new_and_ascending(self):
        web = Web(3, [(2, 0, 1, 1), (0, 2, -2, -2), (0, 1, 0, 0), (1, 0, -1, -1)])
        told = slope(web, [0, 1, 2])
        self.assertEqual(list(told[1]), [0, 1, 2])
        told[1].clear()
        self.assertEqual(len(slope(web, [0, 1, 2])[1]), 3)

    def test_is_slope(self):
        web = Web(3, [(0, 1, 1, 1), (1, 0, -2, -2), (2, 0, 0, None)])
        self.assertIs(is_slope(web, [0, 1], (2, {0: 3, 1: 0})), True)
        self.assertIs(is_slope(web, [1, 0], (2, {1: 0, 0: 3})), True)
        self.assertIs(is_slope(web, [0, 1], (2, {0: -7, 1: -10})), True)
        self.assertIs(is_slope(web, [0, 1], (100, {0: 150, 1: 0})), True)
        self.assertIs(is_slope(web, [0, 1], (10 ** 40, {0: 10 ** 40 + 1, 1: 0})), True)
        self.assertIs(is_slope(web, [0, 1], (2, {0: 2, 1: 0})), False)
        self.assertIs(is_slope(web, [0, 1], (2, {0: 4, 1: 0})), False)
        self.assertIs(is_slope(web, [0], (0, {0: 0})), True)
        self.assertIs(is_slope(web, [0], (-3, {0: 10 ** 50})), True)
        self.assertIs(is_slope(web, [], (5, {})), True)

    def test_steps_and_ends(self):
        for ends, falls in (((None, -1), [True, False, False]), ((1, None), [False, False, True]),
                            ((None, None), [False, False, False]), ((-1, -1), [True, False, False]),
                            ((1, 1), [False, False, True]), ((0, 0), [False] * 3), ((-1, 1), [False] * 3)):
            web = Web(1, [(0, 0) + ends])
            self.assertEqual([is_slope(web, [0], (step, {0: 0})) for step in (1, 0, -1)], falls)
        for ends, told in (((None, None), [False, True, False]), ((None, 2), [True, True, False]), ((2, None), [False, True, True]),
                           ((-2, 2), [True, True, True])):
            web = Web(2, [(0, 1) + ends])
            self.assertEqual([is_slope(web, [0, 1], (step, {0: 9, 1: 0})) for step in (4, 0, -4)], told)
            self.assertEqual([is_slope(web, [0, 1], (0, {0: start, 1: 5})) for start in (4, 5, 6, 7)],
                             [False, False, True, True])
        web = Web(2, [(0, 1, -2, 3)])
        self.assertEqual([is_slope(web, [0, 1], (2, {0: start, 1: 0})) for start in (6, 7)], [False, True])
        self.assertEqual([is_slope(web, [0, 1], (-2, {0: start, 1: 0})) for start in (4, 5)], [False, True])

    def test_with_one_thing_otherwise(self):
        web = Web(2, [(0, 1, 1, 1), (1, 0, -2, -2)])
        for thing in ([2, {0: 3, 1: 0}], (2, {0: 3}), (2, {0: 3, 1: 0, 2: 0}), (2, {0: 3, 2: 0}), (True, {0: 3, 1: 0}),
                      (2, {0: 3, 1: False}), (2, {0: 3, True: 0}), (2, {False: 3, 1: 0}), (2, {0: 3, "1": 0}),
                      (2, {0: 3, 1: None}), (None, {0: 3, 1: 0}), (2, [3, 0]), (2, [(0, 3), (1, 0)]), (2, {0: 3, 1: 0}, 0),
                      (2,), ({0: 3, 1: 0}, 2), (2, {0: 3, 1: (0,)}), (-2, {0: 3, 1: 0}), (2, {0, 1}), (0, {0: 3, 1: 0})):
            self.assertIs(is_slope(web, [0, 1], thing), False, thing)

    def test_any_value(self):
        web = Web(2, [(0, 1, 1, 1), (1, 0, -2, -2)])
        for thing in some_values() + [nested(30)]:
            self.assertIs(is_slope(web, [0, 1], thing), False, thing)

    def test_drawn_least_starts(self):
        draw = Draw(530)
        least = 0
        for _ in range(500):
            web = draw.web(4)
            for part in parts(web):
                told = slope(web, part)
                goes = way(web, part)
                self.assertEqual(told is None, goes == "ring")
                if told is None:
                    continue
                self.assertEqual(told[0], {"alone": 0, "up": len(part), "down": -len(part)}[goes])
                self.assertIs(is_slope(web, part, told), True)
                self.assertEqual(list(told[1]), part)
                for column in part:
                    # One less at any column is none, unless the start is 0: so none is lesser in just one of them.
                    if told[1][column] > 0:
                        least += 1
                        self.assertIs(is_slope(web, part, (told[0], {**told[1], column: told[1][column] - 1})), False)
                    else:
                        self.assertEqual(told[1][column], 0)
                self.assertEqual(min(told[1].values()), 0)
                if max(told[1].values()) < 12 and len(part) < 4:
                    for starts in itertools.product(range(12), repeat=len(part)):
                        if is_slope(web, part, (told[0], dict(zip(part, starts)))):
                            self.assertTrue(all(start >= told[1][column] for column, start in zip(part, starts)))
        self.assertGreater(least, 20)


if __name__ == "__main__":
    unittest.main()
