"""The errors of the package; each keeps the objects with which it is made."""


class SheetError(ValueError):
    """What the errors of the package have in common; it is raised nowhere itself."""


class Wrong(SheetError):
    """An argument is not as described; place counts the arguments from 0."""

    def __init__(self, place):
        self.place = place


class NoColumn(SheetError):
    """A value is no column."""

    def __init__(self, column):
        self.column = column


class NoRow(SheetError):
    """A column has no cell in this row."""

    def __init__(self, row):
        self.row = row


class NoFit(SheetError):
    """A formula does not fit its place."""

    def __init__(self, place):
        self.place = place


class Beyond(SheetError):
    """A name or range of a formula can't be written by letters."""

    def __init__(self, at):
        self.at = at


class Ring(SheetError):
    """Cells hang on themselves."""

    def __init__(self, ring):
        self.ring = ring


class NoPlan(SheetError):
    """There is a ring from this number of rows on."""

    def __init__(self, length):
        self.length = length


class NotLinear(SheetError):
    """A cell is not linear."""

    def __init__(self, address):
        self.address = address


class NotOnce(SheetError):
    """An input does not lead once to a cell."""

    def __init__(self, cell):
        self.cell = cell


class NoCell(SheetError):
    """A value is no address."""

    def __init__(self, address):
        self.address = address


class NoInput(SheetError):
    """A value is no address of an input cell."""

    def __init__(self, address):
        self.address = address


class NoGoal(SheetError):
    """A goal can't be reached."""


class Nothing(SheetError):
    """There is nothing to undo or to do anew."""


class BadEdit(SheetError):
    """A value is no edit."""


class Stopped(SheetError):
    """One of several edits can't be done."""

    def __init__(self, index):
        self.index = index


class Refused(SheetError):
    """A check refuses a row."""

    def __init__(self, row, at):
        self.row = row
        self.at = at


class Unasked(SheetError):
    """A check asks a column that is no input column."""

    def __init__(self, at):
        self.at = at


class NotReady(SheetError):
    """A column is not ready."""

    def __init__(self, column):
        self.column = column


class Stuck(SheetError):
    """Checks have no safe order."""

    def __init__(self, lot):
        self.lot = lot


class NoText(SheetError):
    """A text tells nothing from this line on; 0 if it is no string."""

    def __init__(self, line):
        self.line = line


class NoCommand(SheetError):
    """A line is no command."""
