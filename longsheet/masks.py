"""Sets of rows as integers, a bit for each row, so that whole columns are led along an edge at once."""

from longsheet.graph import turned_edge


def rows_of(mask):
    """The ascending list of the rows in a mask."""
    rows = []
    while mask != 0:
        least = mask & -mask
        rows.append(least.bit_length() - 1)
        mask = mask ^ least
    return rows


def led_along(mask, low, high, rows):
    """The mask of the rows to which the distances from low to high lead from those in a mask."""
    if mask == 0:
        return 0
    full = (1 << rows) - 1
    least = (mask & -mask).bit_length() - 1
    most = mask.bit_length() - 1
    if low is None:
        return full if high is None else full & _rows_up_to(most + high)
    if high is None:
        return full & ~_rows_up_to(least + low - 1)
    led = 0
    for distance in range(low, high + 1):
        led = led | (mask << distance if distance >= 0 else mask >> -distance)
    return full & led


def masks_led_to(many, edges, rows, cell):
    """The list of the masks, column by column, of the cells to which walks of at least two cells lead along edges."""
    leading = [[edge for edge in edges if edge[0] == here] for here in range(many)]
    masks = [0] * many
    waiting = {cell[0]: 1 << cell[1]}
    while waiting:
        column = next(iter(waiting), None)
        start = waiting[column]
        del waiting[column]
        for _, there, low, high in leading[column]:
            fresh = led_along(start, low, high, rows) & ~masks[there]
            if fresh != 0:
                masks[there] = masks[there] | fresh
                waiting[there] = waiting.get(there, 0) | fresh
    return masks


def cells_in(masks):
    """The ascending list of the cells in masks, column by column."""
    return [(column, row) for column, mask in enumerate(masks) for row in rows_of(mask)]


def ringed_masks(many, edges, rows):
    """The list of the masks, column by column, of the cells from which a walk along the edges leads to a ring."""
    masks = [(1 << rows) - 1] * many
    doubtful = {column: True for column in range(many)}
    # A cell without a next one that is left leads to no ring; what hangs next on it is then looked at again.
    while doubtful:
        column = next(iter(doubtful), None)
        del doubtful[column]
        left = masks[column] & with_next(column, masks, edges, rows)
        if left != masks[column]:
            masks[column] = left
            for edge in edges:
                if edge[1] == column:
                    doubtful[edge[0]] = True
    return masks


def with_next(column, masks, edges, rows):
    """The mask of the rows of a column that hang next on a cell in masks."""
    found = 0
    for edge in edges:
        if edge[0] == column:
            there, low, high = turned_edge(edge)[1:]
            found = found | led_along(masks[there], low, high, rows)
    return found


def _rows_up_to(row):
    return (1 << max(0, row + 1)) - 1
