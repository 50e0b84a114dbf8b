"""Words of a line that tell integers."""

from longsheet.cursor import Cursor
from longsheet.errors import NoText


def count_of(word):
    """The integer from 0 on that a word is the text of, or None."""
    integer = integer_of(word)
    return integer if integer is not None and integer >= 0 else None


def integer_of(word):
    """The integer that a word is the text of, or None."""
    cursor = Cursor(word)
    try:
        integer = cursor.take_integer()
    except NoText:
        return None
    return integer if cursor.ends() else None
