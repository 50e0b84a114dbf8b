"""Sets of integers, told as ascending stretches."""

from longsheet.errors import Wrong
from longsheet.values import is_integer


class Spans:
    """A set of integers; it never changes."""

    def __init__(self, pairs):
        if not _are_pairs(pairs):
            raise Wrong(0)
        self._pairs = _stretches(pairs)

    def __iter__(self):
        return iter(self._pairs)

    def __len__(self):
        return len(self._pairs)

    def __contains__(self, number):
        return is_integer(number) and any([_is_between(number, low, high) for low, high in self._pairs])

    def __eq__(self, other):
        return isinstance(other, Spans) and self._pairs == other._pairs

    def __or__(self, other):
        return Spans(self._pairs + other._pairs)

    def __and__(self, other):
        return Spans(_shared(self._pairs, other._pairs))

    def __sub__(self, other):
        return Spans(_shared(self._pairs, _gaps(other._pairs)))

    def __invert__(self):
        return Spans(_gaps(self._pairs))

    def pairs(self):
        """The ascending list of the stretches as tuples (low, high), None for no end."""
        return list(self._pairs)

    def least(self):
        """The integer that is nearest to 0, of two such ones the one above 0, or None."""
        return min([_nearest(low, high) for low, high in self._pairs], key=_nearness, default=None)

    def many(self):
        """How many integers there are, or None if there is no end."""
        if any([low is None or high is None for low, high in self._pairs]):
            return None
        return sum([high - low + 1 for low, high in self._pairs])


def _are_pairs(things):
    return isinstance(things, (list, tuple)) and all([_is_pair(thing) for thing in things])


def _is_pair(thing):
    if not isinstance(thing, tuple) or len(thing) != 2 or not all([end is None or is_integer(end) for end in thing]):
        return False
    return thing[0] is None or thing[1] is None or thing[0] <= thing[1]


def _is_between(number, low, high):
    return (low is None or low <= number) and (high is None or number <= high)


def _stretches(pairs):
    """The list of stretches as long as possible."""
    found = []
    for low, high in sorted(list(pairs), key=_pair_order):
        if found and _touches(found[-1][1], low):
            found[-1] = (found[-1][0], _later_end(found[-1][1], high))
        else:
            found.append((low, high))
    return found


def _pair_order(pair):
    return (pair[0] is not None, pair[0] or 0)


def _touches(end, low):
    return end is None or low is None or low <= end + 1


def _later_end(one, other):
    return None if one is None or other is None else max(one, other)


def _earlier_end(one, other):
    if one is None or other is None:
        return other if one is None else one
    return min(one, other)


def _later_start(one, other):
    if one is None or other is None:
        return other if one is None else one
    return max(one, other)


def _gaps(stretches):
    """The list of the stretches of all other integers."""
    found = []
    start = None
    for low, high in stretches:
        if low is not None:
            found.append((start, low - 1))
        if high is None:
            return found
        start = high + 1
    return found + [(start, None)]


def _shared(one, other):
    """The list of the stretches of the integers that are in both."""
    found = []
    at = to = 0
    while at < len(one) and to < len(other):
        start, end = _later_start(one[at][0], other[to][0]), _earlier_end(one[at][1], other[to][1])
        if start is None or end is None or start <= end:
            found.append((start, end))
        if one[at][1] == end:
            at += 1
        else:
            to += 1
    return found


def _nearest(low, high):
    if low is not None and low > 0:
        return low
    return high if high is not None and high < 0 else 0


def _nearness(number):
    return (abs(number), -number)
