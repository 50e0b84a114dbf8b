"""Texts of sheets, contents, addresses, values, and of all values together."""

from longsheet.notation import show_formula
from longsheet.reckoning import values
from longsheet.values import is_integer

BETWEEN = " | "
# Python writes no number of some thousands of digits at once; values of cells may have more.
PIECE = 60
BEYOND_PIECE = 10 ** 60


def show_sheet(sheet):
    """The text of a sheet: a line of its head, body and foot for each column."""
    return "".join([BETWEEN.join([show_formula(formula) for formula in column]) + "\n" for column in sheet.columns()])


def show_contents(contents):
    """The text of contents: a line for each input cell that is not empty."""
    return "".join([_contents_line(address, contents[address]) for address in sorted(contents)])


def show_cell(address, rows):
    """The text of an address at so many rows."""
    column, row = address
    if row == rows:
        return f"{column} foot"
    return _cell_text(column, row)


def show_value(value):
    """The text of the value of a cell."""
    if value is None:
        return "-"
    return _integer_text(value) if is_integer(value) else value


def show_grid(sheet, rows, contents):
    """The text of the values of all cells: a line for the head, each body row and the foot."""
    told = values(sheet, rows, contents)
    lines = [[show_value(told[(column, row)]) for column in range(len(sheet))] for row in range(-1, rows + 1)]
    return "".join([BETWEEN.join(line) + "\n" for line in lines])


def _integer_text(number):
    left, pieces = abs(number), []
    while left >= BEYOND_PIECE:
        pieces.append(str(left % BEYOND_PIECE).zfill(PIECE))
        left = left // BEYOND_PIECE
    sign = "-" if number < 0 else ""
    return sign + str(left) + "".join(pieces[::-1])


def _contents_line(address, number):
    return _cell_text(address[0], address[1]) + f" {number}\n"


def _cell_text(column, row):
    return f"{column} head" if row == -1 else f"{column} {row}"
