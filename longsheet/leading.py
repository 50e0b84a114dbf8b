"""Lots of values that are led back through formulas: from the value of a formula to that of one cell that it reads."""

from longsheet.formulas import RANGING
from longsheet.lots import in_lot
from longsheet.spans import Spans
from longsheet.undoing import before_adding, before_dividing, before_least, before_most, before_multiplying
from longsheet.undoing import divisors_into, holding
from longsheet.values import ERRORS, first_error, is_error, plain
from longsheet.working import holds, put_together, split_among, worked_out

TURNED = {"=": "=", "<>": "<>", "<": ">", "<=": ">=", ">": "<", ">=": "<="}


def led_back(formula, index, place, others, lot):
    """The lot of the values of one cell, as one read sees it, with which the value of a formula lies in a lot."""
    if formula[0] == "name":
        return lot
    if formula[0] in RANGING:
        return _lot_of_one(formula, place, list(others[index]), lot)
    split = split_among(formula, others)
    at, ahead = 0, 0
    while index >= ahead + len(split[at][1]):
        ahead = ahead + len(split[at][1])
        at += 1
    # What is told of the cell itself means nothing, so the part that reads it is not worked out.
    values = [None if here == at else worked_out(part, told) for here, (part, told) in enumerate(split)]
    part, told = split[at]
    return led_back(part, index - ahead, place, told, _lot_of_one(formula, at, values, lot))


def _lot_of_one(formula, at, values, lot):
    """The lot of what one of the values that come together in a formula may be so that its value lies in a lot."""
    errors = [error for error in ERRORS if in_lot(lot, _value_with(formula, at, values, error))]
    empty = in_lot(lot, _value_with(formula, at, values, None))
    return (_integers_of_one(formula, at, values, lot), empty, tuple(errors))


def _value_with(formula, at, values, value):
    return put_together(formula, values[:at] + [value] + values[at + 1:])


def _integers_of_one(formula, at, values, lot):
    if _means_nothing(formula, at, values):
        return _all_if(in_lot(lot, _value_with(formula, at, values, 0)))
    word, spans = formula[0], lot[0]
    others = [value for value in values[:at] + values[at + 1:] if value is not None]
    if word == "case":
        return _integers_compared(formula, at, values, lot) if at < 2 else spans
    if word in ("sum", "total"):
        return before_adding(sum(others), spans)
    if word in ("most", "top"):
        return before_most(max(others, default=None), spans)
    if word in ("least", "low"):
        return before_least(min(others, default=None), spans)
    if word == "times":
        return before_multiplying(formula[1], spans)
    if at == 0:
        return before_dividing(others[0], spans)
    return divisors_into(plain(values[0]), spans) | Spans([(0, 0)] if in_lot(lot, "#zero") else [])


def _means_nothing(formula, at, values):
    """Whether a formula has the same value with each integer in a place, or "#zero"."""
    word = formula[0]
    if word == "case":
        return _case_passes_by(formula, at, values)
    if first_error(values[:at] + values[at + 1:]) is not None:
        return True
    if word == "over":
        return at == 0 and plain(values[1]) == 0
    return word == "many" or (word == "times" and formula[1] == 0)


def _case_passes_by(formula, at, values):
    if at < 2:
        return is_error(values[1 - at])
    if first_error(values[:2]) is not None:
        return True
    chosen = 2 if holds(plain(values[0]), formula[2], plain(values[1])) else 3
    return at != chosen


def _integers_compared(formula, at, values, lot):
    sign = formula[2] if at == 0 else TURNED[formula[2]]
    found = holding(sign, plain(values[1 - at]))
    return (found & _all_if(in_lot(lot, values[2]))) | (~found & _all_if(in_lot(lot, values[3])))


def _all_if(truth):
    return ~Spans([]) if truth else Spans([])
