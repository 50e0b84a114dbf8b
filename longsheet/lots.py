"""Lots: sets of values, told as tuples of the integers, whether an empty value is among them, and the errors."""

from longsheet.spans import Spans
from longsheet.values import ERRORS, is_error, is_integer


def is_lot(thing):
    """Whether any value is a lot."""
    if not isinstance(thing, tuple) or len(thing) != 3:
        return False
    spans, empty, errors = thing
    if not isinstance(spans, Spans) or not isinstance(empty, bool) or not isinstance(errors, tuple):
        return False
    return all([is_error(error) for error in errors]) and errors == tuple(sorted(set(errors)))


def in_lot(lot, value):
    """Whether a value is in a lot."""
    spans, empty, errors = lot
    if value is None:
        return empty
    return value in spans if is_integer(value) else value in errors


def all_values():
    """The lot of all values."""
    return (~Spans([]), True, ERRORS)


def lot_of(value):
    """The lot of one value alone."""
    if is_integer(value):
        return (Spans([(value, value)]), False, ())
    return (Spans([]), value is None, () if value is None else (value,))


def other_lot(lot):
    """The lot of all values that are not in a lot."""
    spans, empty, errors = lot
    return (~spans, not empty, tuple([error for error in ERRORS if error not in errors]))


def both_lots(one, other):
    """The lot of the values in two lots."""
    return (one[0] & other[0], one[1] and other[1], tuple([error for error in one[2] if error in other[2]]))
