"""[130] spans: sets of integers, told as stretches."""

import unittest

from longsheet.errors import Wrong
from longsheet.spans import Spans
from tests.things import Draw, more_values, nested

ENDS = range(-30, 31)
FAR = 10 ** 59


def held(spans, numbers=ENDS):
    return {number for number in numbers if number in spans}


def plain_held(pairs, numbers=ENDS):
    return {number for number in numbers
            if any((low is None or low <= number) and (high is None or number <= high) for low, high in pairs)}


class Making(unittest.TestCase):
    def test_stretches(self):
        for pairs, told in (([], []), ([(1, 1)], [(1, 1)]), ([(3, 4), (1, 2)], [(1, 4)]), ([(1, 2), (4, 5)], [(1, 2), (4, 5)]),
                            ([(1, 9), (3, 4)], [(1, 9)]), ([(3, 4), (1, 9)], [(1, 9)]), ([(1, 5), (3, 8)], [(1, 8)]),
                            ([(1, 1), (1, 1)], [(1, 1)]), ([(None, 3)], [(None, 3)]), ([(3, None)], [(3, None)]),
                            ([(None, 3), (4, None)], [(None, None)]), ([(None, 3), (5, None)], [(None, 3), (5, None)]),
                            ([(None, 3), (None, 7)], [(None, 7)]), ([(3, None), (-7, None)], [(-7, None)]),
                            ([(5, 6), (None, None)], [(None, None)]), ([(None, None)] * 2, [(None, None)]),
                            ([(0, 0), (-1, -1), (2, 2)], [(-1, 0), (2, 2)]), ([(4, None), (6, 9)], [(4, None)]),
                            ([(None, -4), (-9, -6)], [(None, -4)]), ([(-FAR, FAR)], [(-FAR, FAR)]),
                            ([(5, 6), (3, None), (None, 1)], [(None, 1), (3, None)])):
            for given in (pairs, tuple(pairs), pairs[::-1]):
                spans = Spans(given)
                self.assertEqual(spans.pairs(), told, given)
                self.assertEqual(list(spans), told)
                self.assertEqual([(low, high) for low, high in spans], told)
                self.assertEqual(len(spans), len(told))

    def test_wrong(self):
        good = [(), [], ((None, 3),), [(0, 0)], [(0, 0), (0, 0)], [(None, None)], [(1, 2)]]
        for thing in more_values() + [nested(30), [[1, 2]], [(2, 1)], [(1, 2), (5, 4)], [(1, 2, 3)], [(1,)], [()], [(True, 2)],
                                      [(0, True)], [(False, False)], [("1", 2)], [(None, "2")], [None], (1, 2), "12",
                                      {(1, 2)}, {(1, 2): 3}, [(1, 2), None], [Spans([(1, 2)])], Spans([(1, 2)]), [((1,), 2)],
                                      [(0, -FAR)], frozenset([(1, 2)])]:
            if isinstance(thing, (list, tuple)) and thing in good and not any(isinstance(end, bool) for pair in thing for end in pair):
                Spans(thing)
                continue
            with self.assertRaises(Wrong, msg=repr(thing)) as caught:
                Spans(thing)
            self.assertEqual(caught.exception.place, 0)

    def test_lists_that_are_changed_later(self):
        pairs = [(1, 2)]
        spans = Spans(pairs)
        pairs.append((7, 8))
        pairs[0] = (3, 3)
        told = spans.pairs()
        self.assertEqual(told, [(1, 2)])
        told.append((9, 9))
        told[0] = None
        self.assertEqual([spans.pairs(), list(spans), len(spans), 9 in spans], [[(1, 2)], [(1, 2)], 1, False])


class Asking(unittest.TestCase):
    def test_in(self):
        for pairs in ([], [(3, 5)], [(None, -2), (2, 2), (9, None)], [(None, None)], [(-FAR, -FAR)]):
            spans = Spans(pairs)
            self.assertEqual(held(spans), plain_held(pairs))
            for number in (FAR, -FAR, FAR - 1):
                self.assertIs(number in spans, bool(plain_held(pairs, [number])))
        whole = Spans([(None, None)])
        for thing in (True, False, None, "1", (1, 1), [1], 10 ** 60):
            self.assertIs(thing in whole, thing == 10 ** 60 and thing is not True)

    def test_least(self):
        for pairs, told in (([], None), ([(0, 0)], 0), ([(-3, 5)], 0), ([(None, None)], 0), ([(2, 9)], 2), ([(-9, -2)], -2),
                            ([(-9, -2), (2, 5)], 2), ([(-9, -2), (3, 5)], -2), ([(None, -7)], -7), ([(7, None)], 7),
                            ([(None, -7), (7, None)], 7), ([(None, -7), (8, None)], -7), ([(-8, -8), (-5, -5)], -5),
                            ([(None, 0)], 0), ([(0, None)], 0), ([(-FAR, -1), (1, FAR)], 1)):
            self.assertEqual(Spans(pairs).least(), told, pairs)

    def test_many(self):
        for pairs, told in (([], 0), ([(0, 0)], 1), ([(-3, 5)], 9), ([(1, 2), (2, 3), (9, 9)], 4), ([(None, 3)], None),
                            ([(3, None)], None), ([(None, None)], None), ([(1, 2), (5, None)], None), ([(-FAR, FAR)], 2 * FAR + 1)):
            self.assertEqual(Spans(pairs).many(), told, pairs)

    def test_equality(self):
        one = Spans([(1, 2), (3, 4)])
        self.assertIs(one == Spans([(1, 4)]), True)
        self.assertIs(one != Spans([(1, 4)]), False)
        for thing in more_values() + [[(1, 4)], ((1, 4),), Spans([(1, 3)]), Spans([(1, 4), (6, 6)]), Spans([(1, None)]), {1, 2, 3, 4}]:
            self.assertIs(one == thing, False)
            self.assertIs(thing == one, False)
            self.assertIs(one != thing, True)
        self.assertIs(Spans([]) == [], False)
        self.assertIs(Spans([]) == Spans(()), True)


class Joining(unittest.TestCase):
    def check(self, spans, told):
        """What an operator tells, against a set of the integers near all ends."""
        self.assertIsInstance(spans, Spans)
        self.assertEqual(held(spans), told)
        pairs = spans.pairs()
        for (_, high), (low, _) in zip(pairs, pairs[1:]):
            self.assertGreater(low, high + 1)
        self.assertEqual(Spans(pairs[::-1]), spans)

    def test_drawn(self):
        draw = Draw(1300)
        numbers = set(ENDS)
        for _ in range(300):
            one, other = draw.spans(), draw.spans()
            kept = [one.pairs(), other.pairs()]
            first, second = held(one), held(other)
            self.check(one | other, first | second)
            self.check(one & other, first & second)
            self.check(one - other, first - second)
            self.check(~one, numbers - first)
            self.assertIs(one == other, one.pairs() == other.pairs())
            self.assertEqual([~~one, one - other, ~(one | other)], [one, one & ~other, ~one & ~other])
            self.assertEqual([one.pairs(), other.pairs()], kept)
            ends = [end for pair in kept[0] for end in pair]
            self.assertEqual(one.many(), None if None in ends else len(held(one, range(-99, 99))))
            near = sorted(held(one, range(-99, 99)), key=lambda number: (abs(number), -number))
            self.assertEqual(one.least(), near[0] if near else None)

    def test_ends(self):
        none, all_of, low, high = Spans([]), Spans([(None, None)]), Spans([(None, 0)]), Spans([(0, None)])
        for found, told in ((~none, [(None, None)]), (~all_of, []), (~low, [(1, None)]), (~high, [(None, -1)]),
                            (low & high, [(0, 0)]), (low | high, [(None, None)]), (low - high, [(None, -1)]),
                            (high - low, [(1, None)]), (all_of - low, [(1, None)]), (none | none, []), (none & all_of, []),
                            (all_of - all_of, []), (low - none, [(None, 0)]), (none - low, []), (low | ~low, [(None, None)]),
                            (Spans([(-FAR, FAR)]) & high, [(0, FAR)]), (~Spans([(1, 1), (3, 3)]), [(None, 0), (2, 2), (4, None)]),
                            (Spans([(1, 3), (7, 9)]) & Spans([(3, 7)]), [(3, 3), (7, 7)]),
                            (Spans([(1, 9)]) - Spans([(2, 2), (5, 6)]), [(1, 1), (3, 4), (7, 9)])):
            self.assertEqual(found.pairs(), told)


if __name__ == "__main__":
    unittest.main()
