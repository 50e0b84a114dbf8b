"""Formulas that are worked out by the values of the cells that they mean."""

from longsheet.formulas import RANGING, parts, reads
from longsheet.values import first_error, is_error, plain


def worked_out(formula, others):
    """The value of a formula, others having for each of its reads the list of the values that it means, or None."""
    word = formula[0]
    if word == "number":
        return formula[1]
    if word == "empty":
        return None
    if word == "name":
        return _named(others[0])
    if word in RANGING:
        return _ranged(word, others[0])
    split = _split(parts(formula), others)
    if word == "case":
        return _chosen(formula[2], split)
    return _joined(formula, split)


def _named(values):
    if values is None:
        return "#lost"
    return values[0] if values else None


def _ranged(word, values):
    if values is None:
        return "#lost"
    error = first_error(values)
    return _gathered(word, values) if error is None else error


def _split(inner, others):
    """The list of tuples of a part and what others have for the reads of this part."""
    split = []
    for part in inner:
        many = len(reads(part))
        split.append((part, others[:many]))
        others = others[many:]
    return split


def _chosen(sign, split):
    one, other = [worked_out(part, told) for part, told in split[:2]]
    error = first_error([one, other])
    if error is not None:
        return error
    part, told = split[2] if _holds(plain(one), sign, plain(other)) else split[3]
    return worked_out(part, told)


def _holds(one, sign, other):
    if sign == "=":
        return one == other
    if sign == "<>":
        return one != other
    if sign == "<":
        return one < other
    if sign == "<=":
        return one <= other
    return one > other if sign == ">" else one >= other


def _joined(formula, split):
    word = formula[0]
    values = []
    for part, told in split:
        values.append(worked_out(part, told))
        if is_error(values[-1]):
            return values[-1]
    if word == "times":
        return formula[1] * plain(values[0])
    if word == "over":
        return _divided(plain(values[0]), plain(values[1]))
    return _gathered(word, values)


def _divided(one, other):
    return "#zero" if other == 0 else one // other


def _gathered(word, values):
    told = [value for value in values if value is not None]
    if word in ("sum", "total"):
        return sum(told)
    if word == "many":
        return len(told)
    if not told:
        return None
    return max(told) if word in ("most", "top") else min(told)
