"""Reach: on which body cells a cell hangs at told rows, by walks of any length, and bars between cells."""

from longsheet.graph import is_cell, turned_edge
from longsheet.masks import cells_in, led_along, masks_led_to, rows_of


def hangs(web, rows, cell, other):
    """Whether a cell hangs on another one, or on itself."""
    return _masks_on(web, rows, cell)[other[0]] >> other[1] & 1 == 1


def hanging_on(web, rows, cell):
    """The ascending list of all cells on which a cell hangs."""
    return cells_in(_masks_on(web, rows, cell))


def hanging_from(web, rows, cell):
    """The ascending list of all cells that hang on a cell."""
    back = [(edge[1], edge[0]) + turned_edge(edge)[2:] for edge in web.edges()]
    return cells_in(masks_led_to(len(web), back, rows, cell))


def depends(web, rows, here, there):
    """The ascending list of the distances at which any cell of one column hangs on one of another, or the same one."""
    found = {}
    for row in range(rows):
        for other in rows_of(_masks_on(web, rows, (here, row))[there]):
            found[other - row] = True
    return sorted(found)


def is_bar_between(web, rows, cell, other, thing):
    """Whether any value is an ascending list of cells with all on which a cell hangs, and without the other one."""
    if not isinstance(thing, list):
        return False
    for part in thing:
        if not is_cell(web, rows, part):
            return False
    if not all([one < following for one, following in zip(thing, thing[1:])]) or other in thing:
        return False
    masks = [0] * len(web)
    for column, row in thing:
        masks[column] = masks[column] | 1 << row
    return _holds_next(web, rows, cell, masks) and _is_closed(web, rows, masks)


def bar_between(web, rows, cell, other):
    """The shortest bar between a cell and another one, or None if the cell hangs on the other one."""
    return None if hangs(web, rows, cell, other) else hanging_on(web, rows, cell)


def _masks_on(web, rows, cell):
    return masks_led_to(len(web), web.edges(), rows, cell)


def _holds_next(web, rows, cell, masks):
    start = 1 << cell[1]
    ways = [edge[1:] for edge in web.edges() if edge[0] == cell[0]]
    return all([led_along(start, low, high, rows) & ~masks[there] == 0 for there, low, high in ways])


def _is_closed(web, rows, masks):
    return all([led_along(masks[here], low, high, rows) & ~masks[there] == 0 for here, there, low, high in web.edges()])
