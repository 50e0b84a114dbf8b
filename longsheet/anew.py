"""What a change reaches, and values that are kept up behind each change of contents."""

from longsheet.cells import is_address, is_input
from longsheet.contents import is_contents
from longsheet.errors import NoCell, NoInput, Wrong
from longsheet.kept import Kept
from longsheet.ordering import hung_from, reached_from
from longsheet.reckoning import all_meant, next_by, values
from longsheet.sheets import Sheet
from longsheet.values import is_integer, is_number


class Live:
    """The values of all cells of a sheet at told rows, kept up with its contents."""

    def __init__(self, sheet, rows, contents):
        if not isinstance(sheet, Sheet):
            raise Wrong(0)
        if not is_integer(rows) or rows < 0:
            raise Wrong(1)
        if not is_contents(sheet, rows, contents):
            raise Wrong(2)
        self._of = sheet
        self._long = rows
        self._kept = Kept(sheet, rows, contents)
        self._worked = []

    def value(self, address):
        """The value of a cell."""
        if not is_address(self._of, self._long, address):
            raise NoCell(address)
        return self._kept.value_of(address)

    def put(self, address, number):
        """Changes what an input cell has; the ascending list of the addresses whose values have changed."""
        if not is_input(self._of, self._long, address):
            raise NoInput(address)
        if number is not None and not is_number(number):
            raise Wrong(1)
        unlike, self._worked = self._kept.change(address, number)
        return unlike

    def worked(self):
        """The ascending list of the addresses whose formulas the last put has worked out anew."""
        return list(self._worked)

    def contents(self):
        """The contents, without empty cells."""
        return self._kept.numbers()


def reached(sheet, rows, address):
    """The ascending list of the addresses of the cells that hang on a cell, and itself."""
    found = reached_from(hung_from(next_by(all_meant(sheet, rows))), address)
    found[address] = True
    return sorted(list(found))


def changed(sheet, rows, contents, later):
    """The ascending list of the addresses whose values are unlike at two contents."""
    first, second = values(sheet, rows, contents), values(sheet, rows, later)
    return [address for address in first if first[address] != second[address]]
