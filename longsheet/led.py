"""Names that are led along where columns go."""

from longsheet.formulas import reads, with_reads
from longsheet.names import column_of, with_column


def led(formula, column, to, places):
    """The formula that stood in a column, as it stands in the column to of a sheet whose columns went to places."""
    return with_reads(formula, [_led_read(read, column, to, places) for read in reads(formula)])


def _led_read(read, column, to, places):
    meant = column_of(read, column)
    if meant is None or not 0 <= meant < len(places):
        return read
    place = places[meant]
    if place is None:
        return with_column(read, ("lost",))
    if read[1][0] == "at":
        return with_column(read, ("at", place))
    return with_column(read, ("by", place - to))
