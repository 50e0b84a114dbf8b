"""Edits of a book: what their forms are, and the sheet, rows and contents that stand behind each."""

from longsheet.cells import is_input
from longsheet.contents import lengthened, only_inputs
from longsheet.edits import copy_columns, exchange, move_column, put_column, set_formula, strike_column
from longsheet.errors import BadEdit, NoInput
from longsheet.formulas import is_formula
from longsheet.graph import MOST_COLUMNS
from longsheet.places import places_to_exchange, places_to_move, places_to_put, places_to_strike
from longsheet.sheets import PLACES, is_place
from longsheet.values import is_integer, is_number

MOST_ROWS = 30
COLUMNS_ASKED = {"strike": 1, "move": 2, "exchange": 2}


def is_row_count(thing):
    """Whether any value is a number of rows that a book may have."""
    return is_integer(thing) and 0 <= thing <= MOST_ROWS


def is_edit(thing):
    """Whether any value is an edit by its form."""
    if not isinstance(thing, tuple) or len(thing) == 0 or not isinstance(thing[0], str):
        return False
    word, rest = thing[0], thing[1:]
    if word == "rows":
        return len(rest) == 1 and is_row_count(rest[0])
    if word == "value":
        return len(rest) == 2 and (rest[1] is None or is_number(rest[1]))
    if word == "set":
        return len(rest) == 3 and is_integer(rest[0]) and is_place(rest[1]) and is_formula(rest[2])
    if word == "put":
        return len(rest) == 2 and is_integer(rest[0]) and _is_column_of_formulas(rest[1])
    if word == "copy":
        return len(rest) == 3 and all([is_integer(part) for part in rest]) and rest[2] >= 1
    return word in COLUMNS_ASKED and len(rest) == COLUMNS_ASKED[word] and all([is_integer(part) for part in rest])


def behind(edit, state):
    """The tuple (sheet, rows, contents) that stands behind an edit of such a state."""
    sheet, rows, contents = state
    word = edit[0]
    if word == "rows":
        return (sheet, edit[1], lengthened(sheet, rows, contents, edit[1]))
    if word == "value":
        return (sheet, rows, _with_value(sheet, rows, contents, edit[1], edit[2]))
    if word == "put" and len(sheet) >= MOST_COLUMNS:
        raise BadEdit()
    later = _sheet_behind(edit, sheet)
    places = places_behind(edit, len(sheet))
    led = {(places[column], row): number for (column, row), number in contents.items() if places[column] is not None}
    return (later, rows, only_inputs(later, rows, led))


def places_behind(edit, many):
    """The list of the places to which an edit that can be done leads so many columns."""
    word = edit[0]
    if word == "put":
        return places_to_put(many, edit[1])
    if word == "strike":
        return places_to_strike(many, edit[1])
    if word == "move":
        return places_to_move(many, edit[1], edit[2])
    if word == "exchange":
        return places_to_exchange(many, edit[1], edit[2])
    return list(range(many))


def _is_column_of_formulas(thing):
    return isinstance(thing, tuple) and len(thing) == len(PLACES) and all([is_formula(part) for part in thing])


def _with_value(sheet, rows, contents, address, number):
    if not is_input(sheet, rows, address):
        raise NoInput(address)
    later = {here: contents[here] for here in contents if here != address}
    if number is not None:
        later[address] = number
    return only_inputs(sheet, rows, later)


def _sheet_behind(edit, sheet):
    word, at = edit[:2]
    if word == "set":
        return set_formula(sheet, at, edit[2], edit[3])
    if word == "put":
        return put_column(sheet, at, edit[2])
    if word == "strike":
        return strike_column(sheet, at)
    if word == "move":
        return move_column(sheet, at, edit[2])
    if word == "exchange":
        return exchange(sheet, at, edit[2])
    return copy_columns(sheet, at, edit[2], edit[3])
