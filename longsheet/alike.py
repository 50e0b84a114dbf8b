"""Columns of rising sheets that have the same values at all flows, and flows at which others part."""

from longsheet.rising import MOST_NUMBERS, first_rows, is_flows, must_be_rising, shares_of
from longsheet.values import is_integer


def are_alike(sheet, one, other):
    """Whether two columns have the same values in each row at all flows."""
    return parting(sheet, one, other) is None


def parting(sheet, one, other):
    """The least row in which two columns can have unlike values, with flows at which they have, or None."""
    must_be_rising(sheet)
    for row in range(MOST_NUMBERS):
        first, second = shares_of(sheet, one, row), shares_of(sheet, other, row)
        if first != second:
            return (row, _flows_between(first, second, row))
    return None


def is_parting(sheet, one, other, thing):
    """Whether any value is a tuple of a row and flows at which two columns have unlike values there."""
    must_be_rising(sheet)
    if not isinstance(thing, tuple) or len(thing) != 2:
        return False
    row, flows = thing
    if not is_integer(row) or not 0 <= row < MOST_NUMBERS or not is_flows(sheet, flows):
        return False
    last = first_rows(sheet, flows, row + 1)[-1]
    return last[one] != last[other]


def alike_columns(sheet):
    """The list of the lists of columns that are alike."""
    must_be_rising(sheet)
    groups = []
    for column in range(len(sheet)):
        told = _all_shares(sheet, column)
        alike = [group for group, others in groups if others == told]
        if alike:
            alike[0].append(column)
        else:
            groups.append(([column], told))
    return [group for group, _ in groups]


def plain_column(sheet, column):
    """Whether the body cells of a column are 0 in all rows at all flows."""
    must_be_rising(sheet)
    return all([told == (0, {}, {}) for told in _all_shares(sheet, column)])


def _all_shares(sheet, column):
    # What is told from row to row has less than sixty numbers: columns that part do so in one of these rows.
    return [shares_of(sheet, column, row) for row in range(MOST_NUMBERS)]


def _flows_between(first, second, row):
    """Flows by which unlike shares come to unlike values: with nothing, with one head, or with one input."""
    if first[0] != second[0]:
        return ({}, {})
    heads = _unlike(first[1], second[1])
    if heads:
        return ({heads[0]: 1}, {})
    column, at = _unlike(first[2], second[2])[0]
    return ({}, {column: [1 if here == at else 0 for here in range(row + 1)]})


def _unlike(one, other):
    """The ascending list of the keys that have unlike weights in two dicts."""
    keys = sorted(list(one) + [key for key in other if key not in one])
    return [key for key in keys if one.get(key, 0) != other.get(key, 0)]
