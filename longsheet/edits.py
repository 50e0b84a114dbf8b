"""Edits: sheets with columns put in, struck, moved, exchanged, copied, and with other formulas."""

from longsheet.errors import NoColumn, NoFit
from longsheet.formulas import fits, is_formula
from longsheet.led import led
from longsheet.places import places_to_exchange, places_to_move, places_to_put, places_to_strike
from longsheet.sheets import PLACES, Sheet, is_column, is_place
from longsheet.values import is_integer


def put_column(sheet, at, column):
    """The sheet with a column put in ahead of the column at, or at the end."""
    if not is_integer(at) or not 0 <= at <= len(sheet):
        raise NoColumn(at)
    columns = _moved_columns(sheet, places_to_put(len(sheet), at))
    return Sheet(columns[:at] + [column] + columns[at:])


def strike_column(sheet, at):
    """The sheet without a column."""
    _must_be_columns(sheet, [at])
    return Sheet(_moved_columns(sheet, places_to_strike(len(sheet), at)))


def move_column(sheet, at, to):
    """The sheet with a column moved so that it is column to."""
    _must_be_columns(sheet, [at, to])
    return Sheet(_moved_columns(sheet, places_to_move(len(sheet), at, to)))


def exchange(sheet, at, to):
    """The sheet with two columns exchanged."""
    _must_be_columns(sheet, [at, to])
    return Sheet(_moved_columns(sheet, places_to_exchange(len(sheet), at, to)))


def set_formula(sheet, at, place, formula):
    """The sheet with another formula at a place of a column."""
    _must_be_columns(sheet, [at])
    if not is_place(place) or not is_formula(formula) or not fits(formula, place):
        raise NoFit((at, place))
    columns = sheet.columns()
    columns[at] = tuple([formula if here == place else old for here, old in zip(PLACES, columns[at])])
    return Sheet(columns)


def copy_columns(sheet, at, to, many):
    """The sheet with the formulas of many columns from at on, as they are, in the columns from to on."""
    _must_be_columns(sheet, [at, to])
    _must_be_columns(sheet, [at + many - 1, to + many - 1])
    columns = sheet.columns()
    return Sheet(columns[:to] + columns[at:at + many] + columns[to + many:])


def _must_be_columns(sheet, things):
    for thing in things:
        if not is_column(sheet, thing):
            raise NoColumn(thing)


def _moved_columns(sheet, places):
    """The columns that are not struck, in their new order, with all that they read led along."""
    moved = sorted([(to, old) for old, to in enumerate(places) if to is not None])
    return [tuple([led(formula, old, to, places) for formula in sheet[old]]) for to, old in moved]
