"""Rising sheets: their bodies are linear and look to no row below, so that values run down the rows, however many."""

from longsheet.errors import NotLinear
from longsheet.forms import terms_of, without_zeros
from longsheet.formulas import is_linear, reads
from longsheet.graph import web_of
from longsheet.names import column_of
from longsheet.orders import must_have_plan, order_by, plan
from longsheet.rings import least_ring
from longsheet.sheets import is_column
from longsheet.values import is_integer, is_number

MOST_COLUMNS = 4
FARTHEST_UP = -3
MOST_NUMBERS = 61


def is_rising(sheet):
    """Whether a sheet is rising."""
    return len(sheet) <= MOST_COLUMNS and _first_unfit(sheet) is None and least_ring(web_of(sheet)) is None


def is_flows(sheet, thing):
    """Whether any value is a tuple of the numbers of heads and of the lists of numbers of inputs."""
    if not isinstance(thing, tuple) or len(thing) != 2:
        return False
    heads, lists = thing
    if not isinstance(heads, dict) or not isinstance(lists, dict):
        return False
    for column, number in heads.items():
        if not is_column(sheet, column) or not is_number(number):
            return False
    for column, numbers in lists.items():
        if not is_column(sheet, column) or sheet[column][1][0] != "input" or not _are_numbers(numbers):
            return False
    return True


def first_values(sheet, flows, rows):
    """The list of so many rows from 0 on, lists of the values of all columns."""
    must_be_rising(sheet)
    return first_rows(sheet, flows, rows)


def shares(sheet, column, row):
    """The tuple (constant, heads, inputs) of a body cell: with what weights they go into its value."""
    must_be_rising(sheet)
    return shares_of(sheet, column, row)


def must_be_rising(sheet):
    """Raises what all functions raise that need a rising sheet."""
    if len(sheet) > MOST_COLUMNS:
        raise NotLinear((MOST_COLUMNS, 0))
    column = _first_unfit(sheet)
    if column is not None:
        raise NotLinear((column, 0))
    must_have_plan(web_of(sheet))


def row_order(sheet):
    """The list of the columns, each behind those that its body reads in its own row."""
    return [column for column, _ in order_by(plan(web_of(sheet)), 1)]


def flow_at(flows, column, row):
    """The input of a row of a column."""
    numbers = flows[1].get(column, [0])
    return numbers[row % len(numbers)]


def first_rows(sheet, flows, rows):
    """The first rows of a sheet that is known to be rising."""
    order = row_order(sheet)
    found, totals = [], [[0] * len(sheet)]
    for row in range(rows):
        found.append([0] * len(sheet))
        # The sums of all rows ahead of this one; each grows as soon as its value is there.
        totals.append(list(totals[-1]))
        for column in order:
            body = sheet[column][1]
            if body[0] == "input":
                value = flow_at(flows, column, row)
            else:
                constant, terms = terms_of(body)
                value = constant + sum([weight * _seen(read, column, row, flows[0], found, totals)
                                        for weight, read in terms])
            found[row][column] = value
            totals[row + 1][column] = totals[row + 1][column] + value
    return found


def shares_of(sheet, column, row):
    """The shares in a body cell of a sheet that is known to be rising."""
    order = row_order(sheet)[::-1]
    cells, totals, heads, inputs = {(column, row): 1}, {}, {}, {}
    constant = 0
    # Weights are handed on to what is read, from each cell ahead of those that stand in its row and above.
    for here in range(row, -1, -1):
        for at in order:
            running = totals.get((at, here), 0)
            _add(totals, (at, here - 1), running)
            weight = cells.get((at, here), 0) + running
            body = sheet[at][1]
            if body[0] == "input":
                _add(inputs, (at, here), weight)
            elif weight != 0:
                more, terms = terms_of(body)
                constant = constant + weight * more
                for factor, read in terms:
                    _hand_on(read, at, here, weight * factor, (cells, totals, heads))
    return (constant, without_zeros(heads), without_zeros(inputs))


def _seen(read, column, row, heads, found, totals):
    """What a name or range comes to in a row, totals having the sums of all rows ahead of each."""
    there = column_of(read, column)
    if read[0] == "rows":
        first, behind = _ends(read, row)
        return totals[behind][there] - totals[first][there] if first < behind else 0
    led = -1 if read[2][0] == "head" else row + read[2][1]
    if led == -1:
        return heads.get(there, 0)
    return found[led][there] if led >= 0 else 0


def _hand_on(read, column, row, weight, sinks):
    cells, totals, heads = sinks
    there = column_of(read, column)
    if read[0] == "rows":
        first, behind = _ends(read, row)
        if first < behind:
            _add(totals, (there, behind - 1), weight)
            _add(totals, (there, first - 1), -weight)
        return
    led = -1 if read[2][0] == "head" else row + read[2][1]
    if led == -1:
        _add(heads, there, weight)
    if led >= 0:
        _add(cells, (there, led), weight)


def _ends(read, row):
    """The first row of a range and the one behind its last row."""
    first = 0 if read[2] is None else max(0, row + read[2])
    return (first, row + read[3] + 1)


def _add(weights, key, weight):
    weights[key] = weights.get(key, 0) + weight


def _are_numbers(thing):
    if not isinstance(thing, list) or not 1 <= len(thing) <= MOST_NUMBERS:
        return False
    return all([is_number(number) for number in thing])


def _first_unfit(sheet):
    """The least column whose body formula is not rising or looks too far up, or None."""
    for column in range(len(sheet)):
        body = sheet[column][1]
        if not is_linear(body) or not all([_is_fit(sheet, read, column) for read in reads(body)]):
            return column
    return None


def _is_fit(sheet, read, column):
    if not is_column(sheet, column_of(read, column)):
        return False
    if read[0] == "rows":
        low, high = read[2:]
        return (low is None or low >= FARTHEST_UP) and is_integer(high) and FARTHEST_UP <= high <= 0
    return read[2][0] == "head" or FARTHEST_UP <= read[2][1] <= 0
