"""Inputs that lead once to a cell: by one way alone, on which each cell reads the next one once."""

from longsheet.errors import NotOnce
from longsheet.ordering import order_of
from longsheet.reckoning import meant_from, next_by


def leads_once(sheet, rows, address, cell):
    """Whether an input leads once to a cell."""
    return way_by(meant_from(sheet, rows, cell), address, cell) is not None


def chain(sheet, rows, address, cell):
    """The list of the addresses of the only way from a cell to an input."""
    found = way_by(meant_from(sheet, rows, cell), address, cell)
    if found is None:
        raise NotOnce(cell)
    return found


def way_by(meant, address, cell):
    """This list by what is meant by the cell and by all on which it hangs; None if the input does not lead once."""
    following = next_by(meant)
    leading = {}
    # Cells on rings, and those that hang on one, do not stand in the order: nothing leads from them.
    for here in order_of(following):
        if here == address or any([other in leading for other in following[here]]):
            leading[here] = True
    if cell not in leading:
        return None
    found = [cell]
    while found[-1] != address:
        led = [other for cells in meant[found[-1]] if cells is not None for other in cells if other in leading]
        if len(led) != 1:
            return None
        found.append(led[0])
    return found
