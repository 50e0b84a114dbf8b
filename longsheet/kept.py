"""Values of all cells that are kept, and reckoned anew where a change of an input can reach."""

from longsheet.cells import value_by
from longsheet.contents import only_inputs
from longsheet.ordering import hung_from, order_of
from longsheet.reckoning import all_meant, next_by, values_by


class Kept:
    """A sheet at told rows with contents, whatever numbers they have, and the values of all cells."""

    def __init__(self, sheet, rows, contents):
        self._of = sheet
        self._long = rows
        self._numbers = only_inputs(sheet, rows, contents)
        self._meant = all_meant(sheet, rows)
        self._known = values_by(sheet, rows, self._numbers, self._meant)
        following = next_by(self._meant)
        self._back = hung_from(following)
        self._order = order_of(following)

    def numbers(self):
        """The contents, without empty cells."""
        return only_inputs(self._of, self._long, self._numbers)

    def value_of(self, address):
        """The value of a cell."""
        return self._known[address]

    def change(self, address, number):
        """Changes an input; the ascending lists of the cells with another value then, and of those worked out anew."""
        if number is None:
            self._numbers.pop(address, None)
        else:
            self._numbers[address] = number
        unlike = {}
        touched = {address: True}
        for cell in self._order:
            if cell in touched and self._reckon(cell):
                unlike[cell] = True
                for other in self._back[cell]:
                    touched[other] = True
        del touched[address]
        return (sorted(list(unlike)), sorted(list(touched)))

    def _reckon(self, cell):
        """Works a cell out; whether its value is another one then."""
        old = self._known[cell]
        self._known[cell] = value_by(self._of, self._long, self._numbers, cell, self._meant[cell], self._known)
        return self._known[cell] != old
