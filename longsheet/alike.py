"""Columns of rising sheets that have the same values at all flows, and flows at which others part."""

from longsheet.rising import MOST_NUMBERS, first_rows, is_flows, must_be_rising
from longsheet.values import is_integer
from longsheet.weights import weight_rows


def are_alike(sheet, one, other):
    """Whether two columns have the same values in each row at all flows."""
    return parting(sheet, one, other) is None


def parting(sheet, one, other):
    """The least row in which two columns can have unlike values, with flows at which they have, or None."""
    must_be_rising(sheet)
    for row, weights in enumerate(weight_rows(sheet, [one, other])):
        if weights[one] != weights[other]:
            return (row, _flows_between(weights[one], weights[other], row, len(sheet)))
    return None


def is_parting(sheet, one, other, thing):
    """Whether any value is a tuple of a row and flows at which two columns have unlike values there."""
    must_be_rising(sheet)
    if not isinstance(thing, tuple) or len(thing) != 2:
        return False
    row, flows = thing
    if not is_integer(row) or not 0 <= row < MOST_NUMBERS or not is_flows(sheet, flows):
        return False
    last = first_rows(sheet, flows, row + 1)[-1]
    return last[one] != last[other]


def alike_columns(sheet):
    """The list of the lists of columns that are alike."""
    must_be_rising(sheet)
    rows = weight_rows(sheet, list(range(len(sheet))))
    groups = []
    for column in range(len(sheet)):
        alike = [group for group in groups if _have_alike(rows, group[0], column)]
        if alike:
            alike[0].append(column)
        else:
            groups.append([column])
    return groups


def plain_column(sheet, column):
    """Whether the body cells of a column are 0 in all rows at all flows."""
    must_be_rising(sheet)
    return all([not any(weights[column]) for weights in weight_rows(sheet, [column])])


def _have_alike(rows, one, other):
    return all([weights[one] == weights[other] for weights in rows])


def _flows_between(first, second, row, many):
    """Flows by which unlike weights come to unlike values: with nothing, with one head, or with one input."""
    at = [here for here in range(len(first)) if first[here] != second[here]][0]
    if at == 0:
        return ({}, {})
    if at <= many:
        return ({at - 1: 1}, {})
    # In the least row that parts, an input of any row but the first can't: it has come less far down.
    return ({}, {at - 1 - many: [1] + [0] * row})
