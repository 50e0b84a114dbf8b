"""Formulas as texts: by distance, and by the letters of columns at a place."""

from longsheet.errors import Beyond, NoText
from longsheet.formulas import fits, reads
from longsheet.grammar import formula_of, formula_text
from longsheet.names import column_of

LETTERS = "abcdefghijklmnopqrstuvwxyz"


def show_formula(formula):
    """The text of a formula, by distance."""
    return formula_text(formula, _show_read)


def read_formula(text):
    """The formula that has just this text, by distance."""
    return formula_of(text, _take_read)


def show_at(formula, column, row):
    """The text of a body formula, by letters, where it stands in a column and a row."""
    for at, read in enumerate(reads(formula)):
        if not _has_letters(read, column, row):
            raise Beyond(at)
    return formula_text(formula, lambda read: _show_letters(read, column, row))


def read_at(text, column, row):
    """The formula of a body that has just this text, by letters, in a column and a row."""
    formula = formula_of(text, lambda cursor: _take_letters(cursor, column, row))
    if not fits(formula, "body"):
        raise NoText(1)
    return formula


def _show_read(read):
    column = _show_part(read[1])
    if read[0] == "rows":
        return f"{column}[{_show_end(read[2])}:{_show_end(read[3])}]"
    row = read[2]
    if row[0] == "by":
        return f"{column}[{row[1]}]"
    if row[0] == "last":
        return f"{column} last {row[1]}"
    return f"{column} {row[0]}"


def _show_part(part):
    if part[0] == "lost":
        return "?"
    if part[0] == "at":
        return f"${part[1]}"
    if part[1] == 0:
        return "."
    return f">{part[1]}" if part[1] > 0 else f"<{-part[1]}"


def _show_end(end):
    return "" if end is None else str(end)


def _take_read(cursor):
    column = _take_part(cursor)
    if cursor.takes("["):
        return _take_rows(cursor, column)
    for word in ("head", "foot"):
        if cursor.takes(f" {word}"):
            return ("name", column, (word,))
    cursor.must_take(" last ")
    return ("name", column, ("last", cursor.take_count()))


def _take_part(cursor):
    if cursor.takes("."):
        return ("by", 0)
    if cursor.takes("?"):
        return ("lost",)
    if cursor.takes("$"):
        return ("at", cursor.take_count())
    if cursor.takes(">"):
        return ("by", _take_steps(cursor))
    cursor.must_take("<")
    return ("by", -_take_steps(cursor))


def _take_steps(cursor):
    steps = cursor.take_count()
    if steps == 0:
        raise NoText(1)
    return steps


def _take_rows(cursor, column):
    low = _take_end(cursor)
    if low is not None and cursor.takes("]"):
        return ("name", column, ("by", low))
    cursor.must_take(":")
    high = _take_end(cursor)
    cursor.must_take("]")
    return ("rows", column, low, high)


def _take_end(cursor):
    return cursor.take_integer() if cursor.starts_integer() else None


def _has_letters(read, column, row):
    meant = column_of(read, column)
    if meant is None or not 0 <= meant < len(LETTERS):
        return False
    if read[0] == "rows":
        return all([end is None or row + end >= 0 for end in read[2:]])
    return read[2][0] != "by" or row + read[2][1] >= -1


def _show_letters(read, column, row):
    letter = LETTERS[column_of(read, column)]
    start = f"${letter}" if read[1][0] == "at" else letter
    if read[0] == "rows":
        low, high = read[2:]
        last = "" if high is None else start + _show_row(high, row)
        return start + ("" if low is None else _show_row(low, row)) + ":" + last
    if read[2][0] == "head":
        return f"{start}$0"
    return start + _show_row(read[2][1], row)


def _show_row(distance, row):
    return str(row + distance + 1)


def _take_letters(cursor, column, row):
    start = "$" if cursor.takes("$") else ""
    letter = cursor.sign()
    at = LETTERS.find(letter)
    if letter == "" or at < 0:
        raise NoText(1)
    cursor.must_take(letter)
    part = ("at", at) if start else ("by", at - column)
    if cursor.takes("$0"):
        return ("name", part, ("head",))
    number = cursor.take_count() if cursor.starts_count() else None
    if cursor.takes(":"):
        last = cursor.take_count() if cursor.takes(start + letter) else None
        return ("rows", part, _distance(number, row), _distance(last, row))
    if number is None:
        raise NoText(1)
    return ("name", part, ("by", number - 1 - row))


def _distance(number, row):
    if number is None:
        return None
    if number == 0:
        raise NoText(1)
    return number - 1 - row
