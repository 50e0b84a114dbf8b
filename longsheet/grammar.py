"""The texts of formulas, whatever way their names and ranges are written."""

from longsheet.cursor import Cursor
from longsheet.errors import NoText
from longsheet.formulas import GATHERING, RANGING, SIGNS, parts
from longsheet.values import is_number

# Far more than what has to be read; texts beyond are refused ahead of Python's own end of recursion.
MOST_BRACKETS = 60


def formula_text(formula, show_read):
    """The text of a formula, its names and ranges written by show_read."""
    word = formula[0]
    if word == "name":
        return show_read(formula)
    if word in RANGING:
        return f"{word}({show_read(formula[1])})"
    if word == "number":
        return str(formula[1])
    if word in ("empty", "input"):
        return word
    texts = [formula_text(part, show_read) for part in parts(formula)]
    if word == "times":
        texts = [str(formula[1])] + texts
    if word == "case":
        texts = [f"{texts[0]} {formula[2]} {texts[1]}"] + texts[2:]
    return word + "(" + ", ".join(texts) + ")"


def formula_of(text, take_read):
    """The formula of any value that is such a text, its names and ranges read off a cursor by take_read."""
    if not isinstance(text, str):
        raise NoText(0)
    if _most_brackets(text) > MOST_BRACKETS:
        raise NoText(1)
    cursor = Cursor(text)
    formula = _take_formula(cursor, take_read)
    if not cursor.ends():
        raise NoText(1)
    return formula


def _most_brackets(text):
    most = here = 0
    for sign in text:
        if sign == "(":
            here += 1
            most = max(most, here)
        if sign == ")":
            here -= 1
    return most


def _take_formula(cursor, take_read):
    if cursor.starts_integer():
        return ("number", _take_number(cursor))
    for word in ("empty", "input"):
        if cursor.takes(word):
            return (word,)
    for word in RANGING + GATHERING + ("times", "over", "case"):
        if cursor.takes(word + "("):
            made = (word,) + _take_inside(cursor, word, take_read)
            cursor.must_take(")")
            return made
    return _take_read_of(cursor, "name", take_read)


def _take_inside(cursor, word, take_read):
    if word in RANGING:
        return (_take_read_of(cursor, "rows", take_read),)
    if word in GATHERING:
        return (_take_several(cursor, take_read),)
    if word == "case":
        return _take_case(cursor, take_read)
    first = _take_number(cursor) if word == "times" else _take_formula(cursor, take_read)
    return (first, _take_next(cursor, take_read))


def _take_several(cursor, take_read):
    if cursor.sign() == ")":
        return ()
    formulas = [_take_formula(cursor, take_read)]
    while cursor.takes(", "):
        formulas.append(_take_formula(cursor, take_read))
    return tuple(formulas)


def _take_case(cursor, take_read):
    one = _take_formula(cursor, take_read)
    sign = _take_sign(cursor)
    other = _take_formula(cursor, take_read)
    then = _take_next(cursor, take_read)
    return (one, sign, other, then, _take_next(cursor, take_read))


def _take_sign(cursor):
    for sign in SIGNS:
        if cursor.takes(f" {sign} "):
            return sign
    raise NoText(1)


def _take_next(cursor, take_read):
    cursor.must_take(", ")
    return _take_formula(cursor, take_read)


def _take_number(cursor):
    number = cursor.take_integer()
    if not is_number(number):
        raise NoText(1)
    return number


def _take_read_of(cursor, word, take_read):
    read = take_read(cursor)
    if read[0] != word:
        raise NoText(1)
    return read
