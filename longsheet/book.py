"""Books: a sheet, a number of rows and contents that are led from edit to edit, each of which can be undone."""

from longsheet.cells import is_address
from longsheet.changes import behind, is_edit, is_row_count
from longsheet.errors import BadEdit, NoCell, Nothing, SheetError, Stopped, Wrong
from longsheet.reckoning import order_for, values
from longsheet.sheets import Sheet


class Book:
    """A sheet at a number of rows with contents, and the edits that led to them."""

    def __init__(self, sheet, *, rows=0, rings=True):
        if not isinstance(sheet, Sheet):
            raise Wrong(0)
        if not is_row_count(rows):
            raise Wrong(1)
        if not isinstance(rings, bool):
            raise Wrong(2)
        self._free = rings
        self._state = (sheet, rows, {})
        # Tuples of an edit and the state ahead of it, and of an undone edit and the state behind it; no state changes.
        self._done = []
        self._undone = []
        self._told = None

    def __len__(self):
        return len(self._done)

    def __eq__(self, other):
        return isinstance(other, Book) and self._state == other._state and self._free == other._free

    @property
    def sheet(self):
        """The sheet."""
        return self._state[0]

    @property
    def rows(self):
        """The number of rows."""
        return self._state[1]

    @property
    def rings(self):
        """Whether edits may leave rings."""
        return self._free

    def contents(self):
        """The contents."""
        return dict(self._state[2])

    def value(self, address):
        """The value of a cell."""
        sheet, rows, contents = self._state
        if not is_address(sheet, rows, address):
            raise NoCell(address)
        if self._told is None:
            self._told = values(sheet, rows, contents)
        return self._told[address]

    def do(self, edit):
        """Does an edit."""
        if not is_edit(edit):
            raise BadEdit()
        self._go(edit, self._behind(edit, self._state))

    def do_all(self, edits):
        """Does a list or a tuple of edits as one."""
        if not isinstance(edits, (list, tuple)) or not all([is_edit(edit) for edit in edits]):
            raise BadEdit()
        state = self._state
        for index, edit in enumerate(edits):
            try:
                state = self._behind(edit, state)
            except SheetError:
                raise Stopped(index) from None
        self._go(tuple(edits), state)

    def back(self):
        """Undoes the last edit that stands, and returns it."""
        if not self._done:
            raise Nothing()
        edit, state = self._done.pop()
        self._undone.append((edit, self._state))
        self._stand(state)
        return edit

    def again(self):
        """Does the edit anew that was undone last, and returns it."""
        if not self._undone:
            raise Nothing()
        edit, state = self._undone.pop()
        self._done.append((edit, self._state))
        self._stand(state)
        return edit

    def log(self):
        """The list of the edits that stand; those of one do_all are a tuple of edits."""
        return [edit for edit, _ in self._done]

    def copied(self):
        """A Book in the same state, with what can be undone and done anew."""
        other = Book(self._state[0], rows=self._state[1], rings=self._free)
        other._state = self._state
        other._done = list(self._done)
        other._undone = list(self._undone)
        return other

    def _behind(self, edit, state):
        later = behind(edit, state)
        if not self._free:
            order_for(later[0], later[1])
        return later

    def _go(self, edit, state):
        self._done.append((edit, self._state))
        self._undone.clear()
        self._stand(state)

    def _stand(self, state):
        self._state = state
        self._told = None
