"""Contents: the numbers that the input cells of a sheet have at told rows."""

from longsheet.cells import is_input
from longsheet.values import is_number


def is_contents(sheet, rows, thing):
    """Whether any value is a dict from addresses of input cells to numbers."""
    if not isinstance(thing, dict):
        return False
    return all([is_input(sheet, rows, address) and is_number(number) for address, number in thing.items()])


def only_inputs(sheet, rows, contents):
    """The contents with the addresses of input cells alone."""
    addresses = sorted([address for address in contents if is_input(sheet, rows, address)])
    return {address: contents[address] for address in addresses}


def lengthened(sheet, rows, contents, more):
    """What the contents are at another number of rows; new inputs are empty."""
    return only_inputs(sheet, more, only_inputs(sheet, rows, contents))
