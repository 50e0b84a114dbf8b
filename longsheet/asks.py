"""Tests of what one input column has in a body row, and entries: what a body row has in all of them."""

from longsheet.back import all_numbers
from longsheet.formulas import has_input, is_formula, is_sign, reads
from longsheet.leading import led_back
from longsheet.names import is_made
from longsheet.spans import Spans
from longsheet.undoing import holding
from longsheet.values import ERRORS, is_error, is_integer, is_number, plain
from longsheet.working import holds, worked_out

FARTHEST_COLUMN = 7


def input_columns(sheet):
    """The ascending list of the columns whose body is an input."""
    return [column for column in range(len(sheet)) if sheet[column][1][0] == "input"]


def is_entry(sheet, thing):
    """Whether any value is a dict from just the input columns to numbers or None."""
    if not isinstance(thing, dict) or not all([is_integer(column) for column in thing]):
        return False
    if sorted(list(thing)) != input_columns(sheet):
        return False
    return all([value is None or is_number(value) for value in list(thing.values())])


def entry_at(sheet, contents, row):
    """The entry that a body row has."""
    return {column: contents.get((column, row)) for column in input_columns(sheet)}


def is_test(thing):
    """Whether any value is a test."""
    if is_made(thing, "empty", 2):
        return _is_asked(thing[1])
    if not is_made(thing, "asks", 4):
        return False
    _, formula, sign, number = thing
    return is_number(number) and is_sign(sign) and is_formula(formula) and _reads_one(formula)


def column_asked(test):
    """The column that a test asks."""
    return test[1] if test[0] == "empty" else reads(test[1])[0][1][1]


def test_answer(test, value):
    """What a test answers at a number or None: "yes", "no" or "error"."""
    if test[0] == "empty":
        return "yes" if value is None else "no"
    _, formula, sign, number = test
    found = worked_out(formula, [[value]])
    if is_error(found):
        return "error"
    return "yes" if holds(plain(found), sign, number) else "no"


def told_by(test):
    """The dict from each answer to the Spans of the numbers at which a test answers so, and whether it does at None."""
    if test[0] == "empty":
        return {"error": (Spans([]), False), "no": (all_numbers(), False), "yes": (Spans([]), True)}
    _, formula, sign, number = test
    wrong = _led_to(formula, (Spans([]), False, ERRORS))
    right = _led_to(formula, (holding(sign, number), holds(0, sign, number), ()))
    others = (all_numbers() - wrong[0] - right[0], not wrong[1] and not right[1])
    return {"error": wrong, "no": others, "yes": right}


def _is_asked(thing):
    return is_integer(thing) and 0 <= thing <= FARTHEST_COLUMN


def _reads_one(formula):
    """Whether a formula without input has just one read, the name of an input column in its own row."""
    found = reads(formula)
    if len(found) != 1 or has_input(formula):
        return False
    read = found[0]
    return read[0] == "name" and read[1][0] == "at" and _is_asked(read[1][1]) and read[2] == ("by", 0)


def _led_to(formula, lot):
    spans, empty, _ = led_back(formula, 0, 0, [[None]], lot)
    return (spans & all_numbers(), empty)
