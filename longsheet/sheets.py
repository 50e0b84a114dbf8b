"""Sheets: columns of a head, a body and a foot, at any number of rows."""

from longsheet.errors import NoColumn, NoFit, NoRow, Wrong
from longsheet.formulas import fits, is_formula
from longsheet.names import column_of
from longsheet.values import is_integer

PLACES = ("head", "body", "foot")


class Sheet:
    """Columns, each a tuple (head, body, foot) of formulas that fit; it never changes."""

    def __init__(self, columns):
        if not _are_columns(columns):
            raise Wrong(0)
        self._columns = [tuple(column) for column in columns]
        for at, column in enumerate(self._columns):
            for place, formula in zip(PLACES, column):
                if not fits(formula, place):
                    raise NoFit((at, place))

    def __len__(self):
        return len(self._columns)

    def __eq__(self, other):
        return isinstance(other, Sheet) and self._columns == other._columns

    def __getitem__(self, at):
        if not is_column(self, at):
            raise NoColumn(at)
        return self._columns[at]

    def __iter__(self):
        raise TypeError("a Sheet is not iterated over")

    def columns(self):
        """The list of the tuples (head, body, foot)."""
        return list(self._columns)

    def addresses(self, rows):
        """The ascending list of all addresses at so many rows."""
        return [(column, row) for column in range(len(self._columns)) for row in range(-1, rows + 1)]

    def inputs(self, rows):
        """The ascending list of the addresses of the input cells at so many rows."""
        return [address for address in self.addresses(rows) if self.formula_at(address, rows)[0] == "input"]

    def formula_at(self, address, rows):
        """The formula of the cell with this address at so many rows."""
        column, row = address
        if not is_column(self, column):
            raise NoColumn(column)
        if not is_integer(row) or not -1 <= row <= rows:
            raise NoRow(row)
        head, body, foot = self._columns[column]
        if row == -1:
            return head
        return foot if row == rows else body

    def means(self, address, read, rows):
        """The ascending list of the addresses that a name or range means in a cell, or None without a column."""
        column = column_of(read, address[0])
        if column is None or not 0 <= column < len(self._columns):
            return None
        return [(column, row) for row in _rows_meant(read, address[1], rows)]


def is_column(sheet, thing):
    """Whether any value is a column of a sheet."""
    return is_integer(thing) and 0 <= thing < len(sheet)


def is_place(thing):
    """Whether any value is one of the words "head", "body" and "foot"."""
    return isinstance(thing, str) and thing in PLACES


def _are_columns(things):
    if not isinstance(things, (list, tuple)):
        return False
    for thing in things:
        if not isinstance(thing, (list, tuple)) or len(thing) != len(PLACES):
            return False
        for part in thing:
            if not is_formula(part):
                return False
    return True


def _rows_meant(read, row, rows):
    if read[0] == "rows":
        first = 0 if read[2] is None else max(0, row + read[2])
        last = rows - 1 if read[3] is None else min(rows - 1, row + read[3])
        return list(range(first, last + 1))
    part = read[2]
    if part[0] == "head":
        return [-1]
    if part[0] == "foot":
        return [rows]
    led = row + part[1] if part[0] == "by" else rows - 1 - part[1]
    return [led] if -1 <= led < rows else []
