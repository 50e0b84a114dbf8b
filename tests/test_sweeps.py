"""[61] sweeps."""

import itertools
import unittest

from longsheet.errors import NoPlan
from longsheet.graph import Web
from longsheet.parts import parts
from longsheet.rings import least_ring
from longsheet.sweeps import are_sweeps, fewest_sweeps, is_row, needing_row, row_needs, sweeps
from tests.things import Draw, nested, some_values

WEB = Web(3, [(0, 0, -1, -1), (1, 0, 2, 2), (1, 1, 1, 1), (2, 1, None, 0)])
SWEEPS = [(1, {0: 0}), (-1, {1: 0}), (1, {2: 0})]
FIRSTS = ("down", "up")


class AreSweeps(unittest.TestCase):
    def test_sweeps(self):
        for thing in (SWEEPS, [(9, {0: -4}), (-1, {1: 10 ** 40}), (10 ** 40, {2: 0})], [(-1, {})] + SWEEPS, SWEEPS + [(-1, {})],
                      [(1, {0: 0}), (-1, {}), (1, {}), (-1, {1: 0}), (1, {2: 0})], [(1, {0: 0}), (-1, {1: 0}), (5, {}), (-1, {2: 0})]):
            self.assertIs(are_sweeps(WEB, thing), True, thing)
        self.assertIs(are_sweeps(Web(0, []), []), True)
        self.assertIs(are_sweeps(Web(0, []), [(1, {}), (-1, {})]), True)

    def test_in_the_same_sweep(self):
        web = Web(2, [(0, 0, -1, -1), (1, 0, 2, 2)])
        for starts, told in (({0: 0, 1: 3}, True), ({1: 3, 0: 0}, True), ({0: 0, 1: 2}, False), ({0: 1, 1: 3}, False)):
            self.assertIs(are_sweeps(web, [(1, starts)]), told)
        self.assertIs(are_sweeps(web, [(8, {0: 0, 1: 17})]), True)
        self.assertIs(are_sweeps(web, [(-1, {0: 0, 1: 9})]), False)
        self.assertIs(are_sweeps(Web(2, [(1, 0, None, 2)]), [(1, {0: 0, 1: 3})]), True)
        self.assertIs(are_sweeps(Web(2, [(1, 0, None, 2)]), [(-1, {0: 0, 1: 99})]), False)
        self.assertIs(are_sweeps(Web(2, [(1, 0, 2, None)]), [(-1, {0: 0, 1: -1})]), True)
        self.assertIs(are_sweeps(Web(2, [(1, 0, 2, None)]), [(1, {0: 0, 1: 99})]), False)

    def test_with_one_thing_otherwise(self):
        down, up, last = SWEEPS
        for thing in ((down, up, last), [down, up], [], [up, down, last], [down, up, (-1, {2: 0})], [down, (1, {1: 0}), last],
                      [down, last, up], [down, up, last, last], [(0, {0: 0}), up, last], [(True, {0: 0}), up, last],
                      [(1, {False: 0}), up, last], [(1, {0: False}), up, last], [(1, {0: None}), up, last], [list(down), up, last],
                      [down, up, (1, {2: 0, 3: 0})], [down, up, (1, {2: 0, 1: 0})], [down, up, (1, {-1: 0})], [down, up, (1, {2: 0}, 0)],
                      [down, up, (1,)], [down, up, None], [down, up, (1, [2])], [down, up, (1, {2})], [down, up, ({2: 0}, 1)],
                      [down, up, (1, {"2": 0})], [(-1, {0: 0}), (1, {}), up, last], [(1, {0: 0, 1: 0}), (-1, {}), last],
                      [(1, {2: 0}), (-1, {1: 0}), (1, {0: 0})], {0: down}, down, [down, up, (None, {2: 0})]):
            self.assertIs(are_sweeps(WEB, thing), False, thing)

    def test_each_column_just_once(self):
        for thing, told in (([(1, {0: 0})], True), ([(-1, {0: 0})], True), ([(1, {}), (-1, {0: 0})], True), ([], False),
                            ([(1, {0: 0}), (-1, {0: 0})], False), ([(1, {1: 0})], False), ([(1, {-1: 0})], False),
                            ([(1, {0: 0, 1: 0})], False), ([(1, {0: 0}), (-1, {1: 0})], False), ([(1, {})], False)):
            self.assertIs(are_sweeps(Web(1, []), thing), told, thing)

    def test_any_value(self):
        for thing in some_values() + [nested(30)]:
            self.assertIs(are_sweeps(WEB, thing), False, thing)
            if thing not in ([], [(1, {})]):
                self.assertIs(are_sweeps(Web(0, []), thing), False, thing)


class Fewest(unittest.TestCase):
    def told(self, web):
        return [fewest_sweeps(web, first) for first in FIRSTS]

    def test_fewest(self):
        self.assertEqual(self.told(WEB), [3, 4])
        self.assertEqual(self.told(Web(0, [])), [0, 0])
        self.assertEqual(self.told(Web(8, [])), [1, 1])
        self.assertEqual(self.told(Web(1, [(0, 0, -1, -1)])), [1, 2])
        self.assertEqual(self.told(Web(1, [(0, 0, 1, None)])), [2, 1])
        self.assertEqual(self.told(Web(2, [(0, 0, 1, 1), (1, 1, -1, -1)])), [2, 2])
        self.assertEqual(self.told(Web(2, [(0, 0, 1, 1), (1, 1, -1, -1), (0, 1, 0, 0)])), [2, 3])
        self.assertEqual(self.told(Web(2, [(0, 1, 5, 5)])), [1, 1])
        self.assertEqual(self.told(Web(2, [(0, 1, None, 0)])), [1, 2])
        self.assertEqual(self.told(Web(2, [(0, 1, 0, None)])), [2, 1])
        self.assertEqual(self.told(Web(2, [(0, 1, None, None)])), [2, 2])
        self.assertEqual(self.told(Web(3, [(0, 1, None, None), (1, 2, None, None)])), [3, 3])
        self.assertEqual(self.told(Web(2, [(0, 0, -1, -1), (1, 1, -1, -1), (1, 0, 0, None)])), [3, 4])
        self.assertEqual(self.told(~WEB), [4, 3])

    def test_sweeps_without_columns(self):
        web = Web(1, [(0, 0, -1, -1)])
        self.assertEqual(sweeps(web, "down"), [(8, {0: 0})])
        self.assertEqual(sweeps(web, "up"), [(-8, {}), (8, {0: 0})])
        self.assertEqual(sweeps(Web(0, []), "down"), [])
        between = Web(2, [(0, 0, -1, -1), (1, 1, -1, -1), (1, 0, 0, None)])
        self.assertEqual([sorted(starts) for _, starts in sweeps(between, "down")], [[0], [], [1]])

    def test_told_sweeps_are_new_and_ascending(self):
        web = Web(3, [(0, 2, 1, 1), (2, 1, 0, 0)])
        told = sweeps(web, "up")
        self.assertEqual([list(starts) for _, starts in told], [[0, 1, 2]])
        told[0][1].clear()
        told.clear()
        self.assertEqual(len(sweeps(web, "up")[0][1]), 3)

    def test_no_plan(self):
        web = Web(2, [(0, 0, -2, -2), (0, 0, 3, 3)])
        for ask in (fewest_sweeps, sweeps, needing_row, lambda told, first: row_needs(told, first, []),
                    lambda told, first: row_needs(told, first, [[0], [1]])):
            for first in FIRSTS:
                with self.assertRaises(NoPlan) as caught:
                    ask(web, first)
                self.assertEqual(caught.exception.length, 5)
        self.assertIs(are_sweeps(web, SWEEPS), False)
        self.assertIs(is_row(web, [[0]]), True)

    def test_by_all_ways_to_share_out_columns(self):
        draw = Draw(610)
        told = {}
        for _ in range(120):
            web = draw.web(3)
            if least_ring(web) is None:
                for first in FIRSTS:
                    many = fewest_sweeps(web, first)
                    told[many] = told.get(many, 0) + 1
                    self.assertEqual(many, self.least_share(web, first))
        self.assertTrue({0, 1, 2, 3} <= set(told))

    def least_share(self, web, first):
        for many in itertools.count():
            for share in itertools.product(range(many), repeat=len(web)):
                groups = [[column for column in range(len(web)) if share[column] == turn] for turn in range(many)]
                if all(share[edge[1]] <= share[edge[0]] for edge in web.edges()):
                    if all(self.can_fall(web, group, (first == "down") == (turn % 2 == 0)) for turn, group in enumerate(groups)):
                        return many

    def can_fall(self, web, group, down):
        """Whether starts can be raised until they fall along all edges of a group."""
        starts = {column: 0 for column in group}
        edges = [edge for edge in web.edges() if edge[0] in group and edge[1] in group]
        if any(edge[3 if down else 2] is None for edge in edges):
            return False
        for _ in range(40):
            kept = dict(starts)
            for here, there, low, high in edges:
                starts[here] = max(starts[here], starts[there] + 1 + (8 * high if down else -8 * low))
            if kept == starts:
                return True
        return False


class Rows(unittest.TestCase):
    def test_is_row(self):
        for row in ([], [[0]], [[1]], [[2]], [[0], [1]], [[1], [2]], [[0], [1], [2]]):
            self.assertIs(is_row(WEB, row), True, row)
        for row in ([[1], [0]], [[0], [2]], [[0], [0]], [[0], [1], [1]], ([0], [1]), [(0,), (1,)], [0, 1], [[0, 1]], [[]], [[3]], [[-1]],
                    [[False]], [[0], [True]], [[0], None], [None], {0: [0]}, [[0], [1], [2], [2]], [[0, 0]], [["0"]], [[[0]]], [{0}]):
            self.assertIs(is_row(WEB, row), False, row)
        wide = Web(3, [(0, 1, -1, -1), (1, 0, 0, 0), (2, 1, 0, 0)])
        self.assertIs(is_row(wide, [[0, 1], [2]]), True)
        for row in ([[1, 0], [2]], [[0], [2]], [[1], [2]], [[2], [0, 1]], [[0, 1, 2]], [[0, 1], [0, 1]]):
            self.assertIs(is_row(wide, row), False, row)
        self.assertIs(is_row(Web(1, [(0, 0, -1, -1)]), [[0], [0]]), False)

    def test_any_value(self):
        for thing in some_values() + [nested(30)]:
            if thing != []:
                self.assertIs(is_row(WEB, thing), False, thing)
                self.assertIs(is_row(Web(0, []), thing), False, thing)
        self.assertIs(is_row(Web(0, []), []), True)
        self.assertIs(is_row(Web(0, []), ()), False)

    def test_row_needs(self):
        for row, told in (([], [0, 0]), ([[0]], [1, 2]), ([[1]], [2, 1]), ([[2]], [1, 1]), ([[0], [1]], [2, 3]), ([[1], [2]], [3, 2]),
                          ([[0], [1], [2]], [3, 4])):
            self.assertEqual([row_needs(WEB, first, row) for first in FIRSTS], told, row)
        same = Web(2, [(0, 0, -1, -1), (1, 1, -2, -1), (1, 0, -3, None)])
        self.assertEqual([row_needs(same, first, [[0], [1]]) for first in FIRSTS], [3, 4])
        for ends, told in (((-3, 3), [1, 2]), ((None, 3), [1, 2])):
            web = Web(2, [(0, 0, -1, -1), (1, 1, -2, -1), (1, 0) + ends])
            self.assertEqual([row_needs(web, first, [[0], [1]]) for first in FIRSTS], told)
        alone = Web(3, [(1, 0, None, 0), (2, 1, 0, None)])
        self.assertEqual([row_needs(alone, first, [[0], [1], [2]]) for first in FIRSTS], [2, 3])

    def test_needing_row(self):
        self.assertIn(needing_row(WEB, "down"), ([[1], [2]], [[0], [1], [2]]))
        self.assertEqual(needing_row(WEB, "up"), [[0], [1], [2]])
        self.assertEqual(needing_row(Web(0, []), "up"), [])
        row = [[0], [1], [2]]
        row_needs(WEB, "up", row)
        self.assertEqual(row, [[0], [1], [2]])
        told = needing_row(WEB, "up")
        told[0].append(9)
        self.assertEqual(needing_row(WEB, "up"), [[0], [1], [2]])

    def test_no_row_needs_more(self):
        draw = Draw(611)
        for _ in range(60):
            web = draw.web(4)
            if least_ring(web) is None:
                for first in FIRSTS:
                    needs = [row_needs(web, first, list(row)) for many in range(5)
                             for row in itertools.permutations(parts(web), many) if is_row(web, list(row))]
                    self.assertEqual(max(needs), fewest_sweeps(web, first))


class Together(unittest.TestCase):
    """What is said of one answer by another one."""

    def test_drawn(self):
        draw = Draw(612)
        told = {}
        for _ in range(300):
            web = draw.web()
            if least_ring(web) is not None:
                continue
            for first in FIRSTS:
                found = sweeps(web, first)
                many = fewest_sweeps(web, first)
                told[many] = told.get(many, 0) + 1
                self.assertEqual(len(found), many)
                self.assertIs(are_sweeps(web, found), True)
                for turn, (step, starts) in enumerate(found):
                    self.assertEqual(step, 8 if (first == "down") == (turn % 2 == 0) else -8)
                    self.assertTrue(all(start >= 0 for start in starts.values()))
                    self.assertEqual(list(starts), sorted(starts))
                row = needing_row(web, first)
                self.assertIs(is_row(web, row), True)
                self.assertEqual(row_needs(web, first, row), many)
        self.assertGreater(max(told), 4)


if __name__ == "__main__":
    unittest.main()
