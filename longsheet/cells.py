"""Cells of a sheet at told rows: their addresses, what they mean, and their values by those of other cells."""

from longsheet.formulas import reads
from longsheet.sheets import is_column
from longsheet.values import is_integer
from longsheet.working import worked_out


def is_address(sheet, rows, thing):
    """Whether any value is the address of a cell."""
    if not isinstance(thing, tuple) or len(thing) != 2:
        return False
    return is_column(sheet, thing[0]) and is_integer(thing[1]) and -1 <= thing[1] <= rows


def is_input(sheet, rows, thing):
    """Whether any value is the address of an input cell."""
    return is_address(sheet, rows, thing) and sheet.formula_at(thing, rows)[0] == "input"


def meant_by(sheet, rows, address):
    """The list that has for each name and range of a cell the list of the cells that it means, or None."""
    return [sheet.means(address, read, rows) for read in reads(sheet.formula_at(address, rows))]


def cells_of(meant):
    """The ascending list of the different cells in what the names and ranges of a cell mean."""
    return sorted(list({cell: True for cells in meant if cells is not None for cell in cells}))


def value_by(sheet, rows, contents, address, meant, known):
    """The value of a cell by what it means and by the known values of these cells."""
    formula = sheet.formula_at(address, rows)
    if formula[0] == "input":
        return contents.get(address)
    return worked_out(formula, values_meant(meant, known))


def values_meant(meant, known):
    """The list that has for each name and range the list of the known values of the cells that it means, or None."""
    return [None if cells is None else [known[cell] for cell in cells] for cells in meant]
