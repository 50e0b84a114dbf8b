"""[51] walks."""

import unittest

from longsheet.graph import Web
from longsheet.walks import is_loop, is_walk, is_web_ring, sum_of, walk_between
from tests.things import Draw, cells_of, nested, plain_next, plain_shortest, some_values

WEB = Web(2, [(0, 0, -1, -1), (0, 1, 0, 2), (1, 0, None, 0), (1, 1, 3, None)])
DOWN, UP, FAR = ((0, 1, 0, 2), 2), ((1, 0, None, 0), -2), ((1, 1, 3, None), 10 ** 40)


class Walks(unittest.TestCase):
    def both(self, rows, thing):
        return [is_walk(WEB, rows, thing), is_web_ring(WEB, rows, thing)]

    def test_walks(self):
        for walk in ([(0, 0)], [(1, 3)], [(0, 3), (0, 2), (0, 1)], [(0, 0), (1, 2), (0, 1), (0, 0), (1, 1)],
                     [(0, 2), (1, 2), (0, 0)]):
            self.assertEqual(self.both(5, walk), [True, False], walk)

    def test_rings(self):
        for ring in ([(0, 0), (1, 0)], [(1, 0), (0, 0)], [(0, 1), (0, 0), (1, 1)], [(1, 4), (0, 3), (1, 3), (0, 2)]):
            self.assertEqual(self.both(5, ring), [True, True], ring)
        for web, ring in ((Web(1, [(0, 0, 0, 0)]), [(0, 3)]), (Web(1, [(0, 0, None, None)]), [(0, 3), (0, 1), (0, 2)])):
            self.assertIs(is_web_ring(web, 5, ring), True)

    def test_with_one_thing_otherwise(self):
        for thing in ([], ((0, 3), (0, 2)), [(0, 3), (0, 1)], [(0, 2), (0, 3)], [(0, 5)], [(0, -1)], [(2, 0)], [(-1, 0)],
                      [(0, 3), (0, 2), (0, 2)], [(0, 3), (0, 2), (0, True)], [(False, 3)], [[0, 3]], [(0, 3, 0)], [(0,)],
                      [(0, 3), None], [None], [(0, "3")], {(0, 3): 0}, {(0, 3)}, (0, 3), [((0, 3),)], [(1, 0), (1, 2)]):
            self.assertEqual(self.both(5, thing), [False, False], thing)

    def test_rings_with_one_thing_otherwise(self):
        for thing in ([(0, 0), (1, 0), (0, 0), (1, 0)], [(0, 0), (1, 0), (0, 0)], [(0, 0)], [(0, 1), (0, 0)],
                      [(0, 0), (1, 0), (0, 0), (1, 1)]):
            self.assertEqual(self.both(5, thing)[1], False, thing)

    def test_rows_count(self):
        self.assertEqual(self.both(3, [(0, 2), (0, 1)]), [True, False])
        self.assertEqual(self.both(2, [(0, 2), (0, 1)]), [False, False])
        self.assertEqual(self.both(0, [(0, 0)]), [False, False])

    def test_any_value(self):
        for thing in some_values() + [nested(30), [(0, 4)] * 1600]:
            self.assertEqual(self.both(5, thing)[1], False, thing)
            self.assertIs(self.both(5, thing)[0], thing == [(0, 0)], thing)
            self.assertEqual([is_walk(Web(0, []), 5, thing), is_web_ring(Web(0, []), 0, thing)], [False, False])

    def test_walk_between(self):
        self.assertEqual(walk_between(WEB, 5, (0, 3), (0, 3)), [(0, 3)])
        self.assertEqual(walk_between(WEB, 5, (0, 3), (0, 2)), [(0, 3), (0, 2)])
        self.assertIsNone(walk_between(Web(2, [(0, 1, 0, 0)]), 5, (1, 0), (0, 0)))
        self.assertIsNone(walk_between(Web(1, [(0, 0, -2, -2)]), 5, (0, 4), (0, 1)))
        self.assertEqual(walk_between(Web(1, [(0, 0, -2, -2)]), 5, (0, 4), (0, 0)), [(0, 4), (0, 2), (0, 0)])
        told = walk_between(WEB, 5, (0, 3), (0, 2))
        told.append(None)
        self.assertEqual(walk_between(WEB, 5, (0, 3), (0, 2)), [(0, 3), (0, 2)])

    def test_drawn_walks_of_as_few_cells_as_possible(self):
        draw = Draw(510)
        found = 0
        for _ in range(60):
            web = draw.web(3)
            rows = draw.number(1, 4)
            for start in cells_of(web, rows):
                for goal in cells_of(web, rows):
                    walk = walk_between(web, rows, start, goal)
                    many = 1 if start == goal else plain_shortest(web, rows, start, goal)
                    if walk is None:
                        self.assertIsNone(many)
                        continue
                    found += 1
                    self.assertEqual([len(walk), walk[0], walk[-1]], [many, start, goal])
                    self.assertIs(is_walk(web, rows, walk), True)
        self.assertGreater(found, 300)

    def test_drawn_against_the_definition(self):
        draw = Draw(511)
        for _ in range(200):
            web = draw.web(3)
            rows = draw.number(1, 3)
            cells = cells_of(web, rows)
            if cells:
                thing = [draw.one(cells)]
                for _ in range(draw.number(0, 4)):
                    thing.append(draw.one(plain_next(web, rows, thing[-1]) + [draw.one(cells)]))
                walks = all(other in plain_next(web, rows, one) for one, other in zip(thing, thing[1:]))
                closes = len(set(thing)) == len(thing) and thing[0] in plain_next(web, rows, thing[-1])
                self.assertIs(is_walk(web, rows, thing), walks)
                self.assertIs(is_web_ring(web, rows, thing), walks and closes)


class Loops(unittest.TestCase):
    def test_loops(self):
        own = ((0, 0, -1, -1), -1)
        for loop, total in (([own], -1), ([own, own], -2), ([DOWN, UP], 0), ([UP, own, DOWN], -1), ([FAR], 10 ** 40),
                            ([UP, DOWN, FAR, FAR], 2 * 10 ** 40), ([FAR, UP, own, own, DOWN], 10 ** 40 - 2)):
            self.assertIs(is_loop(WEB, loop), True, loop)
            self.assertEqual(sum_of(loop), total)

    def test_with_one_thing_otherwise(self):
        for thing in ([], (DOWN, UP), [DOWN], [UP], [DOWN, UP, DOWN], [DOWN, FAR], [list(DOWN), UP], [DOWN + (0,), UP],
                      [((0, 1, 0, 2), 3), UP], [((0, 1, 0, 2), -1), UP], [((0, 1, 0, 2), True), UP], [((0, 1, 0, 2), None), UP],
                      [((0, 1, 0, 3), 2), UP], [([0, 1, 0, 2], 2), UP], [((0, 1, False, 2), 2), UP], [DOWN, ((1, 0, None, 0), 1)],
                      [((False, 1, 0, 2), 2), UP], [((0, True, 0, 2), 2), UP], [((1, 1, 3, None), 2)], [None], [(None, 1)],
                      [((0, 0, -1, -1), False)], [(((0, 0, -1, -1),), -1)], [(0, 0, -1, -1)], {DOWN: UP}, DOWN, [DOWN, None],
                      [((0, 0, -1, -1),)], [((0, 0, [], -1), -1)], [("0000", 0)], [DOWN, UP, None]):
            self.assertIs(is_loop(WEB, thing), False, thing)

    def test_any_value(self):
        for thing in some_values() + [nested(30)]:
            self.assertIs(is_loop(WEB, thing), False, thing)
            self.assertIs(is_loop(Web(0, []), thing), False, thing)

    def test_long_loops(self):
        own = ((0, 0, -1, -1), -1)
        self.assertIs(is_loop(WEB, [own] * 700), True)
        self.assertIs(is_loop(WEB, [own] * 700 + [DOWN]), False)
        self.assertEqual(sum_of([own] * 700), -700)


if __name__ == "__main__":
    unittest.main()
