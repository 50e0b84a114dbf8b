"""Plans: orders of reckoning for all numbers of rows at once."""

from longsheet.errors import NoPlan
from longsheet.graph import is_cell, next_on
from longsheet.parts import parts
from longsheet.rings import least_ring
from longsheet.slopes import is_slope, slope
from longsheet.values import is_integer


def is_plan(web, thing):
    """Whether any value is a plan of a Web."""
    if not isinstance(thing, list):
        return False
    turns = {}
    for turn, entry in enumerate(thing):
        if not isinstance(entry, tuple) or len(entry) != 3:
            return False
        columns = entry[0]
        if not is_column_list(web, columns) or not is_slope(web, columns, entry[1:]):
            return False
        for column in columns:
            if column in turns:
                return False
            turns[column] = turn
    return len(turns) == len(web) and all([turns[edge[1]] <= turns[edge[0]] for edge in web.edges()])


def is_web_order(web, rows, thing):
    """Whether any value is a list of all cells, each behind those on which it hangs next."""
    if not isinstance(thing, list) or len(thing) != len(web) * rows:
        return False
    for cell in thing:
        if not is_cell(web, rows, cell):
            return False
    return len(set(thing)) == len(thing) and first_late(web, rows, thing) is None


def plan(web):
    """The plan of the parts of a Web, in their order, with their slopes."""
    must_have_plan(web)
    return [(part,) + slope(web, part) for part in parts(web)]


def order_by(plan, rows):
    """The list of all cells at so many rows, in the order of a plan."""
    order = []
    for columns, step, starts in plan:
        timed = [(starts[column] + step * row, (column, row)) for column in columns for row in range(rows)]
        order = order + [cell for _, cell in sorted(timed)]
    return order


def first_late(web, rows, cells):
    """The least index of a cell that does not stand behind all on which it hangs next, or None."""
    done = {}
    for at, cell in enumerate(cells):
        if not all([other in done for other in next_on(web, rows, cell)]):
            return at
        done[cell] = True
    return None


def must_have_plan(web):
    """Raises NoPlan with the least number of rows at which there is a ring, if there is one."""
    length = least_ring(web)
    if length is not None:
        raise NoPlan(length)


def is_column_list(web, thing):
    """Whether any value is an ascending list of different columns of a Web, at least one."""
    if not isinstance(thing, list) or len(thing) == 0:
        return False
    for column in thing:
        if not is_integer(column) or not 0 <= column < len(web):
            return False
    return all([one < other for one, other in zip(thing, thing[1:])])
