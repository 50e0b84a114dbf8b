"""Far rows of rising sheets, by what leads from one row to the next, put to itself again and again."""

from math import lcm

from longsheet.forms import terms_of
from longsheet.names import column_of
from longsheet.repeated import applied, joined, needed_for
from longsheet.rising import first_rows, flow_at, must_be_rising, row_order

# From this row on, names and ranges by distance lead to body cells alone, and never to a head.
EVEN = 3
GIVEN = ("one", "head", "input")


def far_value(sheet, flows, column, row, modulus):
    """The remainder of the value of a body cell after division by a modulus."""
    must_be_rising(sheet)
    return _far(sheet, flows, ("value", column, 0), row, modulus)


def far_total(sheet, flows, column, row, modulus):
    """The remainder of the sum of the values of a column down to a row."""
    must_be_rising(sheet)
    return _far(sheet, flows, ("total", column, 0), row, modulus)


def _far(sheet, flows, asked, row, modulus):
    near = first_rows(sheet, flows, min(row + 1, EVEN))
    if row < EVEN:
        return _first(asked, near) % modulus
    forms = _row_forms(sheet)
    needed = needed_for(asked, lambda thing: [other for other in _next_form(thing, forms) if other[0] not in GIVEN])
    vector = [_first(one, near) % modulus for one in needed] + [1]
    matrices = [_matrix(needed, forms, flows, EVEN + turn, modulus) for turn in range(_turns(flows))]
    once = lambda lines, told: _once(lines, told, modulus)
    block = matrices[0]
    for matrix in matrices[1:]:
        block = joined(matrix, block, once)
    times = row - EVEN + 1
    vector = applied(block, vector, times // len(matrices), once)
    for matrix in matrices[:times % len(matrices)]:
        vector = once(matrix, vector)
    return vector[0]


def _turns(flows):
    """After how many rows all lists of inputs come again together."""
    turns = 1
    for numbers in list(flows[1].values()):
        turns = lcm(turns, len(numbers))
    return turns


def _once(matrix, vector, modulus):
    return [sum([weight * number for weight, number in zip(line, vector)]) % modulus for line in matrix]


def _first(one, near):
    """What is told of the last of the first rows: a value of it or of a row above, or the sum of all."""
    word, column, back = one
    if word == "total":
        return sum([line[column] for line in near])
    return near[-1 - back][column]


def _row_forms(sheet):
    """The dict from each column to the weights of all that goes into its next value from the row ahead."""
    forms = {}
    for column in row_order(sheet):
        body = sheet[column][1]
        form = {}
        if body[0] == "input":
            form[("input", column, 0)] = 1
        else:
            constant, terms = terms_of(body)
            form[("one", 0, 0)] = constant
            for weight, read in terms:
                _put_read(form, weight, read, column, forms)
        forms[column] = form
    return forms


def _put_read(form, weight, read, column, forms):
    there = column_of(read, column)
    if read[0] == "name":
        if read[2][0] == "head":
            _put(form, weight, {("head", there, 0): 1})
        else:
            _put(form, weight, _value_form(there, read[2][1], forms))
        return
    low, high = read[2:]
    if low is not None:
        for distance in range(low, high + 1):
            _put(form, weight, _value_form(there, distance, forms))
        return
    _put(form, weight, {("total", there, 0): 1})
    if high == 0:
        _put(form, weight, forms[there])
    for distance in range(high + 1, 0):
        _put(form, -weight, _value_form(there, distance, forms))


def _value_form(column, distance, forms):
    """The value that stands so far above the next row."""
    return forms[column] if distance == 0 else {("value", column, -distance - 1): 1}


def _put(form, weight, other):
    for one in other:
        form[one] = form.get(one, 0) + weight * other[one]


def _next_form(one, forms):
    """What goes into the same thing one row further down."""
    word, column, back = one
    if back > 0:
        return {(word, column, back - 1): 1}
    if word == "value":
        return forms[column]
    form = {one: 1}
    _put(form, 1, forms[column])
    return form


def _matrix(needed, forms, flows, row, modulus):
    """What leads to a row from the one ahead; what is given there stands behind a number that is always 1."""
    lines = []
    for one in needed:
        form = _next_form(one, forms)
        given = sum([form[other] * _given(other, flows, row) for other in form if other[0] in GIVEN])
        lines.append([form.get(other, 0) % modulus for other in needed] + [given % modulus])
    return lines + [[0] * len(needed) + [1]]


def _given(one, flows, row):
    word, column, _ = one
    if word == "one":
        return 1
    return flows[0].get(column, 0) if word == "head" else flow_at(flows, column, row)
