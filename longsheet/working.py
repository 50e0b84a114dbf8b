"""Formulas that are worked out by the values of the cells that they mean."""

from longsheet.formulas import RANGING, parts, reads
from longsheet.values import first_error, plain


def worked_out(formula, others):
    """The value of a formula, others having for each of its reads the list of the values that it means, or None."""
    word = formula[0]
    if word == "number":
        return formula[1]
    if word == "empty":
        return None
    if word == "name":
        return _named(others[0])
    if word in RANGING:
        return "#lost" if others[0] is None else put_together(formula, others[0])
    return put_together(formula, [worked_out(part, told) for part, told in split_among(formula, others)])


def put_together(formula, values):
    """The value of a formula by those of its parts, or of the cells of its range.

    Of a case that of the part that is not chosen means nothing.
    """
    word = formula[0]
    error = first_error(values[:2] if word == "case" else values)
    if error is not None:
        return error
    if word == "case":
        return values[2] if holds(plain(values[0]), formula[2], plain(values[1])) else values[3]
    if word == "times":
        return formula[1] * plain(values[0])
    if word == "over":
        return _divided(plain(values[0]), plain(values[1]))
    return _gathered(word, values)


def split_among(formula, others):
    """The list of tuples of a part of a formula and what others have for the reads of this part."""
    split = []
    for part in parts(formula):
        many = len(reads(part))
        split.append((part, others[:many]))
        others = others[many:]
    return split


def holds(one, sign, other):
    """Whether one integer is to another one as a sign tells."""
    if sign == "=":
        return one == other
    if sign == "<>":
        return one != other
    if sign == "<":
        return one < other
    if sign == "<=":
        return one <= other
    return one > other if sign == ">" else one >= other


def _named(values):
    if values is None:
        return "#lost"
    return values[0] if values else None


def _divided(one, other):
    return "#zero" if other == 0 else one // other


def _gathered(word, values):
    told = [value for value in values if value is not None]
    if word in ("sum", "total"):
        return sum(told)
    if word == "many":
        return len(told)
    if not told:
        return None
    return max(told) if word in ("most", "top") else min(told)
