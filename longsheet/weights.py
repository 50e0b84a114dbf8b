"""With what weights numbers, heads and inputs go into the columns of a rising sheet, in as many rows as tell of all."""

from longsheet.forms import terms_of
from longsheet.names import column_of
from longsheet.rising import MOST_NUMBERS

# In the lists of rows four stand ahead of row 0, as far as sums reach up; the last one of them is that of the heads.
AHEAD = 4
HEADS = 3


def weight_rows(sheet, asked):
    """The list of rows from 0 on, dicts from columns to the list of their weights, for all that are asked.

    The weights are those of the number 1, of each head, and of each input of row 0. Those of an input further down
    are the same so many rows further down: what stands above it is 0 at its account alone.
    """
    many = len(sheet)
    forms = _forms_of(sheet, asked)
    order = _order_in_row(forms)
    none = [0] * (1 + 2 * many)
    nothing = {column: none for column in forms}
    lines, totals = [dict(nothing) for _ in range(AHEAD)], [dict(nothing) for _ in range(AHEAD)]
    for column in forms:
        lines[HEADS][column] = _unit(none, 1 + column)
    for here in range(AHEAD, AHEAD + _enough(forms)):
        lines.append({})
        totals.append({})
        for column in order:
            if sheet[column][1][0] == "input":
                weights = _unit(none, 1 + many + column) if here == AHEAD else none
            else:
                weights = _weights_by(forms[column], none, here, lines, totals)
            lines[here][column] = weights
            totals[here][column] = _added(totals[here - 1][column], 1, weights)
    return lines[AHEAD:]


def _forms_of(sheet, asked):
    """The dict from all columns on which those that are asked rest to tuples (constant, heads, above, sums).

    What is read are lists of tuples (weight, column, distance) of names, and of sums of all rows down to one.
    """
    forms = {}
    waiting = list(asked)
    while waiting:
        column = waiting.pop()
        if column not in forms:
            forms[column] = _form_of(sheet[column][1], column)
            waiting.extend([there for told in forms[column][1:] for _, there, _ in told])
    return forms


def _form_of(body, column):
    heads, above, sums = [], [], []
    if body[0] == "input":
        return (0, heads, above, sums)
    constant, terms = terms_of(body)
    for weight, read in terms:
        there = column_of(read, column)
        if read[0] == "rows":
            low, high = read[2:]
            if low is None or low <= high:
                sums.append((weight, there, high))
            if low is not None and low <= high:
                sums.append((-weight, there, low - 1))
        elif read[2][0] == "head":
            heads.append((weight, there, 0))
        else:
            above.append((weight, there, read[2][1]))
    return (constant, heads, above, sums)


def _order_in_row(forms):
    """The list of the columns, each behind those that it reads in its own row."""
    order = []
    while len(order) < len(forms):
        for column in forms:
            told = forms[column][2] + forms[column][3]
            if column not in order and all([there in order for _, there, distance in told if distance == 0]):
                order.append(column)
    return order


def _enough(forms):
    """The number of rows behind which nothing is told that the rows ahead do not tell.

    Each row comes of so many values and sums of rows above, by the same weights in all rows: columns that have been
    equal for one row more than there are of these stay so.
    """
    values, sums = {}, {}
    for column in forms:
        for _, there, distance in forms[column][2]:
            values[there] = max(values.get(there, 0), -distance)
        for _, there, distance in forms[column][3]:
            sums[there] = max(sums.get(there, 1), -distance)
    return min(MOST_NUMBERS, 1 + sum(list(values.values())) + sum(list(sums.values())))


def _weights_by(form, none, here, lines, totals):
    constant, heads, above, sums = form
    weights = [constant] + none[1:]
    for weight, there, _ in heads:
        weights = _added(weights, weight, lines[HEADS][there])
    for weight, there, distance in above:
        weights = _added(weights, weight, lines[here + distance][there])
    for weight, there, distance in sums:
        weights = _added(weights, weight, totals[here + distance][there])
    return weights


def _added(weights, weight, others):
    return [one + weight * other for one, other in zip(weights, others)]


def _unit(none, at):
    return [1 if here == at else 0 for here in range(len(none))]
