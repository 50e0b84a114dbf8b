"""Formulas: their form, their parts, and what they read."""

from longsheet.names import is_name, is_range
from longsheet.values import is_number

SIGNS = ("=", "<>", "<", "<=", ">", ">=")
GATHERING = ("sum", "most", "least")
RANGING = ("total", "many", "top", "low")
LINEAR = ("number", "empty", "name", "sum", "times", "total")
ROWS_THAT_FIT = {"head": ("head",), "body": ("head", "by"), "foot": ("head", "last", "foot")}


def is_formula(thing):
    """Whether any value is a formula, also with an input within another one."""
    if not isinstance(thing, tuple) or len(thing) == 0 or not isinstance(thing[0], str):
        return False
    word, rest = thing[0], thing[1:]
    if word == "name":
        return is_name(thing)
    if word in ("empty", "input"):
        return len(rest) == 0
    if word == "number":
        return len(rest) == 1 and is_number(rest[0])
    if word in RANGING:
        return len(rest) == 1 and is_range(rest[0])
    if word in GATHERING:
        return len(rest) == 1 and isinstance(rest[0], tuple) and _are_formulas(rest[0])
    if word == "times":
        return len(rest) == 2 and is_number(rest[0]) and is_formula(rest[1])
    if word == "over":
        return len(rest) == 2 and _are_formulas(rest)
    if word == "case":
        return len(rest) == 5 and is_sign(rest[1]) and _are_formulas(rest[:1] + rest[2:])
    return False


def fits(formula, place):
    """Whether a formula may stand in a "head", a "body" or a "foot"."""
    if formula[0] == "input":
        return place != "foot"
    if has_input(formula):
        return False
    return all([_read_fits(read, place) for read in reads(formula)])


def parts(formula):
    """The list of the formulas that are parts of a formula, in order."""
    word = formula[0]
    if word in GATHERING:
        return list(formula[1])
    if word == "times":
        return [formula[2]]
    if word == "over":
        return [formula[1], formula[2]]
    if word == "case":
        return [formula[1], formula[3], formula[4], formula[5]]
    return []


def reads(formula):
    """The list of the names and ranges of a formula, in the order in which they stand."""
    if formula[0] == "name":
        return [formula]
    if formula[0] in RANGING:
        return [formula[1]]
    return [read for part in parts(formula) for read in reads(part)]


def is_linear(formula):
    """Whether a formula is linear by its form."""
    return formula[0] == "input" or _is_plainly_made(formula)


def depth(formula):
    """How many parts lie within one another in a formula."""
    inner = parts(formula)
    if not inner:
        return 0
    return 1 + max([depth(part) for part in inner])


def with_reads(formula, reads):
    """The formula with other names and ranges, in order, in the places of its own."""
    return _filled(formula, list(reads))


def is_sign(thing):
    """Whether any value is one of the signs of a case."""
    return isinstance(thing, str) and thing in SIGNS


def has_input(formula):
    """Whether a formula is an input or has one within it."""
    return formula[0] == "input" or any([has_input(part) for part in parts(formula)])


def _filled(formula, waiting):
    # Takes what it puts in off the front of the list, so that the next part finds its own there.
    word = formula[0]
    if word == "name":
        return waiting.pop(0)
    if word in RANGING:
        return (word, waiting.pop(0))
    return _with_parts(formula, [_filled(part, waiting) for part in parts(formula)])


def _with_parts(formula, others):
    word = formula[0]
    if word in GATHERING:
        return (word, tuple(others))
    if word == "times":
        return (word, formula[1], others[0])
    if word == "over":
        return (word, others[0], others[1])
    if word == "case":
        return (word, others[0], formula[2], others[1], others[2], others[3])
    return formula


def _are_formulas(things):
    for thing in things:
        if not is_formula(thing):
            return False
    return True


def _is_plainly_made(formula):
    return formula[0] in LINEAR and all([_is_plainly_made(part) for part in parts(formula)])


def _read_fits(read, place):
    if read[0] == "name":
        return read[2][0] in ROWS_THAT_FIT[place]
    return place == "body" or (place == "foot" and read[2] is None and read[3] is None)
