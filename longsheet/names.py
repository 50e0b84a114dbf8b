"""Names and ranges: what a formula reads."""

from longsheet.values import is_integer


def is_made(thing, word, many):
    """Whether any value is a tuple of so many items that begins with this word."""
    return isinstance(thing, tuple) and len(thing) == many and isinstance(thing[0], str) and thing[0] == word


def is_name(thing):
    """Whether any value is a name."""
    return is_made(thing, "name", 3) and _is_column_part(thing[1]) and _is_row_part(thing[2])


def is_range(thing):
    """Whether any value is a range."""
    return is_made(thing, "rows", 4) and _is_column_part(thing[1]) and _is_end(thing[2]) and _is_end(thing[3])


def column_of(read, column):
    """The column that a name or range means if it stands in a column, also beyond the sheet; None if it is lost."""
    part = read[1]
    if part[0] == "by":
        return column + part[1]
    if part[0] == "at":
        return part[1]
    return None


def with_column(read, part):
    """The name or range with another column part."""
    return (read[0], part) + read[2:]


def _is_column_part(thing):
    return is_made(thing, "lost", 1) or _is_way(thing) or _is_count(thing, "at")


def _is_row_part(thing):
    return is_made(thing, "head", 1) or is_made(thing, "foot", 1) or _is_way(thing) or _is_count(thing, "last")


def _is_way(thing):
    return is_made(thing, "by", 2) and is_integer(thing[1])


def _is_count(thing, word):
    return is_made(thing, word, 2) and is_integer(thing[1]) and thing[1] >= 0


def _is_end(thing):
    return thing is None or is_integer(thing)
