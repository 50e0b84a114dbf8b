"""Values that are reckoned anew behind each change, where the change can reach, and nowhere else."""

from longsheet.cells import is_address, is_input, value_by
from longsheet.contents import is_contents, only_inputs
from longsheet.errors import NoCell, NoInput, Wrong
from longsheet.ordering import hung_from, order_of, reached_from
from longsheet.reckoning import all_meant, next_by, values, values_by
from longsheet.sheets import Sheet
from longsheet.values import is_integer, is_number


class Live:
    """The values of all cells of a sheet at told rows, kept up with its contents."""

    def __init__(self, sheet, rows, contents):
        if not isinstance(sheet, Sheet):
            raise Wrong(0)
        if not is_integer(rows) or rows < 0:
            raise Wrong(1)
        if not is_contents(sheet, rows, contents):
            raise Wrong(2)
        self._of = sheet
        self._long = rows
        self._numbers = {address: contents[address] for address in contents}
        self._meant = all_meant(sheet, rows)
        self._known = values_by(sheet, rows, contents, self._meant)
        following = next_by(self._meant)
        self._back = hung_from(following)
        self._order = order_of(following)
        self._worked = []

    def value(self, address):
        """The value of a cell."""
        if not is_address(self._of, self._long, address):
            raise NoCell(address)
        return self._known[address]

    def put(self, address, number):
        """Changes what an input cell has; the ascending list of the addresses whose values have changed."""
        if not is_input(self._of, self._long, address):
            raise NoInput(address)
        if number is not None and not is_number(number):
            raise Wrong(1)
        if number is None:
            self._numbers.pop(address, None)
        else:
            self._numbers[address] = number
        unlike = {}
        touched = {address: True}
        for cell in self._order:
            if cell in touched and self._reckon(cell):
                unlike[cell] = True
                for other in self._back[cell]:
                    touched[other] = True
        del touched[address]
        self._worked = sorted(list(touched))
        return sorted(list(unlike))

    def worked(self):
        """The ascending list of the addresses whose formulas the last put has worked out anew."""
        return list(self._worked)

    def contents(self):
        """The contents, without empty cells."""
        return only_inputs(self._of, self._long, self._numbers)

    def _reckon(self, cell):
        """Works a cell out; whether its value is another one then."""
        old = self._known[cell]
        self._known[cell] = value_by(self._of, self._long, self._numbers, cell, self._meant[cell], self._known)
        return self._known[cell] != old


def reached(sheet, rows, address):
    """The ascending list of the addresses of the cells that hang on a cell, and itself."""
    found = reached_from(hung_from(next_by(all_meant(sheet, rows))), address)
    found[address] = True
    return sorted(list(found))


def changed(sheet, rows, contents, later):
    """The ascending list of the addresses whose values are unlike at two contents."""
    first, second = values(sheet, rows, contents), values(sheet, rows, later)
    return [address for address in first if first[address] != second[address]]
