"""Readers of the texts of sheets, contents and cells."""

from longsheet.errors import NoText
from longsheet.formulas import fits
from longsheet.notation import read_formula
from longsheet.sheets import PLACES, Sheet
from longsheet.texts import BETWEEN
from longsheet.values import is_number
from longsheet.words import count_of, integer_of


def read_sheet(text):
    """The Sheet that has just this text."""
    return Sheet(_read_lines(text, _column_of))


def read_contents(text):
    """The contents that have just this text."""
    return {address: number for address, number in _read_lines(text, _entry_of)}


def read_cell(text, rows):
    """The address that has just this text at so many rows."""
    if not isinstance(text, str):
        raise NoText(0)
    words = text.split(" ")
    column = count_of(words[0])
    if len(words) != 2 or column is None:
        raise NoText(1)
    row = {"head": -1, "foot": rows}.get(words[1], count_of(words[1]))
    if row is None or (row >= rows and words[1] != "foot"):
        raise NoText(1)
    return (column, row)


def _read_lines(text, read_line):
    """The list of what the lines of any value tell; read_line(line, ahead) is None for one that can't stand."""
    if not isinstance(text, str):
        raise NoText(0)
    lines = text.split("\n")
    found = []
    for at, line in enumerate(lines[:-1]):
        told = read_line(line, found)
        if told is None:
            raise NoText(at + 1)
        found.append(told)
    if lines[-1] != "":
        raise NoText(len(lines))
    return found


def _column_of(line, _):
    texts = line.split(BETWEEN)
    if len(texts) != len(PLACES):
        return None
    try:
        column = [read_formula(text) for text in texts]
    except NoText:
        return None
    return tuple(column) if all([fits(formula, place) for formula, place in zip(column, PLACES)]) else None


def _entry_of(line, ahead):
    """The tuple of the address and the number of a line of contents."""
    words = line.split(" ")
    if len(words) != 3:
        return None
    column, number = count_of(words[0]), integer_of(words[2])
    row = -1 if words[1] == "head" else count_of(words[1])
    if column is None or row is None or not is_number(number):
        return None
    if ahead and (column, row) <= ahead[-1][0]:
        return None
    return ((column, row), number)
