"""Looked back: which numbers of an input that leads once to a cell lead to a value of it."""

from longsheet.cells import values_meant
from longsheet.chains import way_by
from longsheet.errors import NotOnce
from longsheet.leading import led_back
from longsheet.lots import lot_of
from longsheet.reckoning import meant_from, values_by
from longsheet.spans import Spans
from longsheet.values import ERRORS, FARTHEST


def back(sheet, rows, contents, address, cell, lot):
    """The lot of what an input may be, a number or empty, so that the value of a cell lies in a lot."""
    return _back_along(_steps(sheet, rows, contents, address, cell), lot)


def numbers_for(sheet, rows, contents, address, cell, value):
    """The Spans of the numbers of an input with which a cell has a value."""
    return _numbers_along(_steps(sheet, rows, contents, address, cell), value)


def errors_for(sheet, rows, contents, address, cell):
    """The dict from each error that a cell can have with some number of an input to the Spans of these."""
    steps = _steps(sheet, rows, contents, address, cell)
    told = {error: _numbers_along(steps, error) for error in ERRORS}
    return {error: told[error] for error in told if len(told[error]) > 0}


def outcomes(sheet, rows, contents, address, cell, values):
    """The list of the Spans of the numbers for each of several values, and behind them that of all other numbers."""
    steps = _steps(sheet, rows, contents, address, cell)
    found = [_numbers_along(steps, value) for value in values]
    left = all_numbers()
    for spans in found:
        left = left - spans
    return found + [left]


def nearest(sheet, rows, contents, address, cell, value):
    """The number of an input nearest to 0 with which a cell has a value, or None."""
    return numbers_for(sheet, rows, contents, address, cell, value).least()


def all_numbers():
    """The Spans of all numbers."""
    return Spans([(-FARTHEST, FARTHEST)])


def _steps(sheet, rows, contents, address, cell):
    """The list of what leads from each cell of the way to the next one: formula, index, place, and what it reads."""
    meant = meant_from(sheet, rows, cell)
    way = way_by(meant, address, cell)
    if way is None:
        raise NotOnce(cell)
    known = values_by(sheet, rows, contents, meant)
    steps = []
    for here, following in zip(way, way[1:]):
        index = [at for at, cells in enumerate(meant[here]) if cells is not None and following in cells][0]
        place = meant[here][index].index(following)
        steps.append((sheet.formula_at(here, rows), index, place, values_meant(meant[here], known)))
    return steps


def _back_along(steps, lot):
    for formula, index, place, others in steps:
        lot = led_back(formula, index, place, others, lot)
    return (lot[0] & all_numbers(), lot[1], ())


def _numbers_along(steps, value):
    return _back_along(steps, lot_of(value))[0]
