"""Integers, numbers and the values of cells."""

FARTHEST = 10 ** 12
ERRORS = ("#lost", "#ring", "#zero")


def is_integer(thing):
    """Whether any value is an integer; True and False are none."""
    return isinstance(thing, int) and not isinstance(thing, bool)


def is_number(thing):
    """Whether any value is an integer that formulas and contents may have."""
    return is_integer(thing) and -FARTHEST <= thing <= FARTHEST


def is_value(thing):
    """Whether any value is what a cell may have as its value."""
    return thing is None or is_integer(thing) or is_error(thing)


def is_error(thing):
    """Whether any value is one of the errors of cells."""
    return isinstance(thing, str) and thing in ERRORS


def plain(value):
    """The value, 0 for an empty one."""
    return 0 if value is None else value


def first_error(values):
    """The first error in a list of values, or None."""
    for value in values:
        if is_error(value):
            return value
    return None
