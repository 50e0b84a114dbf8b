"""Texts of levels and of rounds."""

from longsheet.cursor import DIGITS
from longsheet.errors import NoText
from longsheet.levels import levels, round_cells, rounds
from longsheet.orders import must_have_plan
from longsheet.values import is_integer

MOST_DIGITS = 6


def show_levels(web, rows):
    """The text of the levels, a line for each row."""
    return "".join([" ".join([str(number) for number in line]) + "\n" for line in _level_lines(web, rows)])


def show_rounds(web, rows):
    """The text of the rounds, a line of cells for each."""
    texts = []
    for number in range(rounds(web, rows)):
        cells = [f"{column}:{row}" for column, row in round_cells(web, rows, number)]
        texts.append(" ".join(cells) + "\n")
    return "".join(texts)


def read_levels(text):
    """The list of the lists of integers that any value tells that is a text of levels."""
    if not isinstance(text, str):
        raise NoText(0)
    lines = text.split("\n")
    found = []
    for at, line in enumerate(lines[:-1]):
        levels_told = line.split(" ")
        if not all([_is_level(word) for word in levels_told]) or (found and len(levels_told) != len(found[0])):
            raise NoText(at + 1)
        found.append([int(word) for word in levels_told])
    if lines[-1] != "":
        raise NoText(len(lines))
    return found


def draws(web, thing):
    """Whether any value is a list of lists of the levels of a Web, row by row."""
    must_have_plan(web)
    if not isinstance(thing, list):
        return False
    for line in thing:
        if not isinstance(line, list) or len(line) != len(web) or not all([is_integer(number) for number in line]):
            return False
    return thing == _level_lines(web, len(thing))


def _level_lines(web, rows):
    told = levels(web, rows)
    return [[told[(column, row)] for column in range(len(web))] for row in range(rows)]


def _is_level(word):
    if not 0 < len(word) <= MOST_DIGITS or (word[0] == "0" and word != "0"):
        return False
    return all([sign in DIGITS for sign in word])
