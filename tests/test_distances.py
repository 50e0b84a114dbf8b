"""[71] distances: the sums of the walks of an endless body, their tides, and shortest lists of steps."""

import unittest

from longsheet.distances import are_steps, count_distances, distances, is_distance, steps_for
from longsheet.graph import Web
from longsheet.parts import parts, way
from longsheet.reach import hangs
from longsheet.walks import sum_of
from tests.things import Draw, nested, some_values

FAR = 10 ** 40


def drawn_web(draw, most=4):
    """A Web of at most four columns with ends from -3 to 3, or None."""
    many = draw.number(1, most)
    edges = []
    for _ in range(draw.number(0, draw.one([2, 4, 9]))):
        low = draw.number(-3, 3)
        kind = draw.number(0, 9)
        high = low if kind < 7 else None if kind == 7 else draw.number(low, 3)
        edges.append((draw.number(0, many - 1), draw.number(0, many - 1), None if kind == 9 else low, high))
    if draw.number(0, 3) == 0:
        # Along each edge to a greater column or the same one, back but to lesser ones: few loops, many parts.
        edges = [(min(edge[:2]), max(edge[:2])) + edge[2:] for edge in edges]
    return Web(many, edges)


def sums_near(web, here, there, far, wide):
    """The sums up to far of walks whose sums stay within wide, a set grown step by step."""
    found, waiting = set(), [(here, 0)]
    while waiting:
        column, at = waiting.pop()
        for start, to, low, high in web.edges():
            if start == column:
                first = -wide if low is None else max(-wide, at + low)
                last = wide if high is None else min(wide, at + high)
                for led in range(first, last + 1):
                    if (to, led) not in found:
                        found.add((to, led))
                        waiting.append((to, led))
    return {at for column, at in found if column == there and -far <= at <= far}


def check_form(test, tide):
    """The one form in which a tide is told, as far as the tide tells it itself."""
    below, near, above = tide
    for end, modulus, rests in (below, above):
        test.assertEqual(rests, sorted(set(rests)))
        test.assertTrue(modulus >= 1 and all(0 <= rest < modulus for rest in rests))
        for less in range(1, modulus):
            if modulus % less == 0:
                test.assertNotEqual([rest in rests for rest in range(modulus)],
                                    [rest % less in {one % less for one in rests} for rest in range(modulus)])
    test.assertTrue(below[0] <= 0 <= above[0])
    test.assertEqual(near, [number for number in sorted(set(near)) if below[0] <= number <= above[0]])
    if below[0] < 0:
        test.assertNotEqual(below[0] in near, below[0] % below[1] in below[2])
    if above[0] > 0:
        test.assertNotEqual(above[0] in near, above[0] % above[1] in above[2])


class Tides(unittest.TestCase):
    def test_told(self):
        steps = lambda *ends: Web(1, [(0, 0, end, end) for end in ends])
        for web, tide in (
                (Web(1, []), ((0, 1, []), [], (0, 1, []))),
                (steps(0), ((0, 1, []), [0], (0, 1, []))),
                (steps(3), ((0, 1, []), [], (0, 3, [0]))),
                (steps(-3), ((0, 3, [0]), [], (0, 1, []))),
                (steps(2, 3), ((0, 1, []), [], (1, 1, [0]))),
                (steps(2, -2), ((0, 2, [0]), [0], (0, 2, [0]))),
                (steps(3, -2), ((0, 1, [0]), [0], (0, 1, [0]))),
                (Web(1, [(0, 0, None, -1)]), ((0, 1, [0]), [], (0, 1, []))),
                (Web(1, [(0, 0, None, -3)]), ((-2, 1, [0]), [], (0, 1, []))),
                (Web(1, [(0, 0, 2, None)]), ((0, 1, []), [], (1, 1, [0]))),
                (Web(1, [(0, 0, None, None)]), ((0, 1, [0]), [0], (0, 1, [0])))):
            self.assertEqual(distances(web, 0, 0), tide, web.edges())

    def test_common_divisors(self):
        # Loops of sums 6 and 4, entered at 1: all odd ones from 5 on, but for 3 behind it.
        web = Web(3, [(0, 1, 1, 1), (1, 2, 3, 3), (2, 1, 3, 3), (1, 1, 2, 2)])
        self.assertEqual(distances(web, 0, 1), ((0, 1, []), [], (0, 2, [1])))
        web = Web(3, [(0, 1, 1, 1), (1, 2, 3, 3), (2, 1, 3, 3), (2, 1, 1, 1)])
        self.assertEqual(distances(web, 0, 1), ((0, 1, []), [1], (3, 2, [1])))
        # By one column at 3, by another one at 2: neither divides the other.
        web = Web(4, [(0, 1, 0, 0), (1, 1, 3, 3), (1, 3, 0, 0), (0, 2, 0, 0), (2, 2, -2, -2), (2, 3, 0, 0)])
        self.assertEqual(distances(web, 0, 3), ((0, 2, [0]), [0], (0, 3, [0])))
        web = Web(4, [(0, 1, 0, 0), (1, 1, 3, 3), (1, 3, 0, 0), (0, 2, 0, 0), (2, 2, 2, 2), (2, 3, 0, 0)])
        self.assertEqual(distances(web, 0, 3), ((0, 1, []), [0], (0, 6, [0, 2, 3, 4])))

    def test_far_loops(self):
        # Loops of 11 and of 12 alone: 109 is the greatest number that does not come of them.
        web = Web(4, [(0, 1, 3, 3), (1, 2, 3, 3), (2, 3, 3, 3), (3, 0, 3, 3), (3, 0, 2, 2)])
        below, near, above = distances(web, 0, 0)
        self.assertEqual([below, above], [(0, 1, []), (109, 1, [0])])
        self.assertEqual(near, sorted({11 * a + 12 * b for a in range(11) for b in range(11)} & set(range(1, 110))))
        self.assertEqual(len(steps_for(web, 0, 0, 59)), 20)
        self.assertIsNone(steps_for(web, 0, 0, 54))
        # Twelve up and eleven down: all numbers, some of them by many steps.
        web = Web(4, [(0, 1, 3, 3), (1, 2, 3, 3), (2, 3, 3, 3), (3, 0, 3, 3), (0, 1, -3, -3), (1, 2, -3, -3),
                      (2, 3, -3, -3), (3, 0, -2, -2)])
        self.assertEqual(distances(web, 0, 0), ((0, 1, [0]), [0], (0, 1, [0])))
        self.assertEqual(sum_of(steps_for(web, 0, 0, 7)), 7)

    def test_drawn(self):
        draw = Draw(710)
        for _ in range(150):
            web = drawn_web(draw)
            here, there = draw.number(0, len(web) - 1), draw.number(0, len(web) - 1)
            tide = distances(web, here, there)
            check_form(self, tide)
            near = sums_near(web, here, there, 90, 200)
            for number in range(-90, 91):
                self.assertIs(is_distance(tide, number), number in near, (web.edges(), here, there, number))
            for _ in range(10):
                low = draw.number(-90, 90)
                high = draw.number(low, 90)
                self.assertEqual(count_distances(tide, low, high), len([one for one in near if low <= one <= high]))

    def test_turned(self):
        draw = Draw(711)
        for _ in range(60):
            web = drawn_web(draw)
            here, there = draw.number(0, len(web) - 1), draw.number(0, len(web) - 1)
            below, near, above = distances(web, here, there)
            turned = lambda side: (-side[0], side[1], sorted([-rest % side[1] for rest in side[2]]))
            self.assertEqual(distances(~web, here, there), (turned(above), [-one for one in near][::-1], turned(below)))

    def test_far(self):
        draw = Draw(712)
        for _ in range(60):
            web = drawn_web(draw)
            tide = distances(web, 0, len(web) - 1)
            for side, sign in ((tide[0], -1), (tide[2], 1)):
                end, modulus, rests = side
                for more in range(modulus):
                    number = sign * (FAR - more)
                    self.assertIs(is_distance(tide, number), number % modulus in rests)
                self.assertEqual(count_distances(tide, min(sign, sign * modulus) + sign * 10 ** 30,
                                                 max(sign, sign * modulus) + sign * 10 ** 30), len(rests))
            many = count_distances(tide, -FAR, FAR)
            split = draw.number(-FAR, FAR)
            self.assertEqual(count_distances(tide, -FAR, split) + count_distances(tide, split + 1, FAR), many)
            self.assertEqual(count_distances(tide, split, split), int(is_distance(tide, split)))

    def test_made_another_way(self):
        draw = Draw(713)
        for _ in range(30):
            web = drawn_web(draw)
            edges = web.edges()
            draw.random.shuffle(edges)
            other = Web(len(web), edges + edges[:2])
            self.assertEqual(distances(other, 0, 0), distances(web, 0, 0))

    def test_counts(self):
        tide = distances(Web(1, [(0, 0, -2, -2)]), 0, 0)
        self.assertEqual([count_distances(tide, -7, 7), count_distances(tide, -2, -2), count_distances(tide, -1, -1),
                          count_distances(tide, 0, 0), count_distances(tide, -FAR, FAR), count_distances(tide, 1, 9),
                          count_distances(tide, -9, -3)], [3, 1, 0, 0, FAR // 2, 0, 3])


class Steps(unittest.TestCase):
    def test_as_few_as_possible(self):
        draw = Draw(714)
        for _ in range(60):
            web = drawn_web(draw, 3)
            here, there = draw.number(0, len(web) - 1), draw.number(0, len(web) - 1)
            tide = distances(web, here, there)
            reached = {(here, 0)}
            fewest = {}
            for many in range(1, 8):
                reached = {(edge[1], at + d) for column, at in reached for edge in web.edges() if edge[0] == column
                           for d in range(-30, 31) if (edge[2] is None or edge[2] <= d) and (edge[3] is None or d <= edge[3])
                           if abs(at + d) <= 30}
                for column, at in reached:
                    if column == there:
                        fewest.setdefault(at, many)
            for number in range(-12, 13):
                told = steps_for(web, here, there, number)
                self.assertEqual(told is not None, is_distance(tide, number))
                if told is not None:
                    self.assertIs(are_steps(web, here, there, told), True)
                    self.assertEqual(sum_of(told), number)
                    if number in fewest or len(told) < 8:
                        self.assertEqual(len(told), fewest.get(number), (web.edges(), here, there, number))

    def test_all_numbers(self):
        draw = Draw(715)
        for _ in range(12):
            web = drawn_web(draw)
            tide = distances(web, 0, len(web) - 1)
            for number in range(-60, 61):
                told = steps_for(web, 0, len(web) - 1, number)
                self.assertEqual(told is not None, is_distance(tide, number))
                self.assertTrue(told is None or (sum_of(told) == number and are_steps(web, 0, len(web) - 1, told)))

    def test_back_to_the_start(self):
        web = Web(2, [(0, 1, 1, 1), (1, 0, -1, -1)])
        self.assertEqual(steps_for(web, 0, 0, 0), [((0, 1, 1, 1), 1), ((1, 0, -1, -1), -1)])
        self.assertIsNone(steps_for(web, 0, 0, 1))
        self.assertIsNone(steps_for(Web(1, []), 0, 0, 0))
        self.assertEqual(steps_for(Web(1, [(0, 0, None, None)]), 0, 0, -60), [((0, 0, None, None), -60)])

    def test_are_steps(self):
        web = Web(3, [(0, 1, 1, 1), (1, 0, -2, None), (1, 2, 0, 0)])
        out, back, on = ((0, 1, 1, 1), 1), ((1, 0, -2, None), 7), ((1, 2, 0, 0), 0)
        for here, there, thing in ((0, 1, [out]), (0, 0, [out, back]), (1, 1, [back, out]), (0, 2, [out, back, out, on])):
            self.assertIs(are_steps(web, here, there, thing), True)
            self.assertIs(are_steps(web, here, there, tuple(thing)), False)
            self.assertIs(are_steps(web, 2, there, thing), False)
            self.assertIs(are_steps(web, here, 2 - there, thing), there == 1)
        for thing in ([], [back], [on], [out, on], [out, out], [((0, 1, 1, 1), 2)], [((0, 1, 1, 1), True)], [((0, 1, 0, 1), 1)],
                      [((False, 1, 1, 1), 1)], [out, ((1, 0, -2, None), -3)], [out, None], [[(0, 1, 1, 1), 1]], [out + (0,)]):
            self.assertIs(are_steps(web, 0, 1, thing), False, thing)
        self.assertIs(are_steps(web, 0, 0, []), False)
        for thing in some_values() + [nested(30)]:
            self.assertIs(are_steps(web, 0, 1, thing), False, thing)


class AtToldRows(unittest.TestCase):
    def test_cells_hang_at_told_distances(self):
        draw = Draw(716)
        for _ in range(40):
            web = drawn_web(draw, 3)
            rows, row = 9, draw.number(0, 8)
            for here in range(len(web)):
                for there in range(len(web)):
                    tide = distances(web, here, there)
                    for other in range(rows):
                        if hangs(web, rows, (here, row), (there, other)):
                            self.assertIs(is_distance(tide, other - row), True)

    def test_far_from_the_ends_at_all_of_them(self):
        draw = Draw(717)
        asked = 0
        for _ in range(60):
            web = drawn_web(draw)
            for part in parts(web):
                if way(web, part) != "ring":
                    here, there = draw.one(part), draw.one(part)
                    tide = distances(web, here, there)
                    for row in (12, 20, 30, 47):
                        for other in range(12, 48):
                            asked += 1
                            self.assertIs(hangs(web, 60, (here, row), (there, other)), is_distance(tide, other - row))
        self.assertGreater(asked, 5000)


if __name__ == "__main__":
    unittest.main()
