"""Slopes: moments of cells that fall along all edges between some columns."""

from longsheet.heights import are_fallen, edges_within, falls, least_starts
from longsheet.parts import way
from longsheet.values import is_integer

STEPS = {"alone": 0, "up": 1, "down": -1}


def is_slope(web, columns, thing):
    """Whether any value is a slope of some columns."""
    if not isinstance(thing, tuple) or len(thing) != 2:
        return False
    step, starts = thing
    if not is_integer(step) or not are_starts(starts) or len(starts) != len(columns):
        return False
    if not all([column in starts for column in columns]):
        return False
    told = falls(edges_within(web, columns), step)
    return told is not None and are_fallen(starts, told)


def slope(web, part):
    """The slope of a part with the least starts from 0 on, or None if its way is "ring"."""
    leads = way(web, part)
    if leads == "ring":
        return None
    step = STEPS[leads] * len(part)
    return (step, least_starts(part, falls(edges_within(web, part), step)))


def are_starts(thing):
    """Whether any value is a dict from integers to integers."""
    if not isinstance(thing, dict):
        return False
    return all([is_integer(column) and is_integer(start) for column, start in thing.items()])
