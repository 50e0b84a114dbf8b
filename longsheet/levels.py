"""Levels: how many cells hang on one another at most, and the rounds in which all can be reckoned."""

from longsheet.graph import next_on
from longsheet.masks import cells_in, with_next
from longsheet.orders import must_have_plan, order_by, plan
from longsheet.repeated import applied, needed_for

# Less than all that is reckoned with here, so that nothing that adds up to it is ever the greatest.
NEVER = -(10 ** 60)
UNIT = ("unit", 0, 0)


def level(web, rows, cell):
    """The greatest number k such that a walk of k + 1 cells begins at a cell."""
    return levels(web, rows)[cell]


def level_walk(web, rows, cell):
    """Such a walk of k + 1 cells."""
    told = levels(web, rows)
    walk = [cell]
    while told[walk[-1]] > 0:
        walk.append([other for other in next_on(web, rows, walk[-1]) if told[other] == told[walk[-1]] - 1][0])
    return walk


def levels(web, rows):
    """The dict from all cells to their levels."""
    found = {(column, row): 0 for column in range(len(web)) for row in range(rows)}
    for number, masks in enumerate(_round_masks(web, rows)):
        for cell in cells_in(masks):
            found[cell] = number
    return found


def rounds(web, rows):
    """How many rounds are needed if each reckons all cells that hang next only on cells of earlier ones."""
    return len(_round_masks(web, rows))


def round_cells(web, rows, number):
    """The ascending list of the cells that are reckoned in a round."""
    return cells_in(_round_masks(web, rows)[number])


def busiest(web, rows):
    """The greatest number of cells of one round."""
    return max([len(cells_in(masks)) for masks in _round_masks(web, rows)], default=0)


def far_level(web, column, row):
    """The level of a body cell in a sheet with enough rows, for a Web that looks to rows above and its own alone."""
    must_have_plan(web)
    forms = _row_forms(web)
    asked = ("level", column, 0)
    needed = [UNIT] + needed_for(asked, lambda thing: [other for other in _next_form(thing, forms) if other != UNIT])
    matrix = []
    for one in needed:
        form = _next_form(one, forms)
        matrix.append([form.get(other, NEVER) for other in needed])
    # Ahead of the first row there are no cells.
    vector = [0] + [NEVER] * (len(needed) - 1)
    return applied(matrix, vector, row + 1, _once)[1]


def _round_masks(web, rows):
    """The list that has for each round the masks, column by column, of its cells."""
    must_have_plan(web)
    edges = web.edges()
    left = [(1 << rows) - 1] * len(web)
    found = []
    while any([mask != 0 for mask in left]):
        later = [mask & with_next(column, left, edges, rows) for column, mask in enumerate(left)]
        found.append([mask & ~other for mask, other in zip(left, later)])
        left = later
    return found


def _once(matrix, vector):
    return [max([NEVER] + [more + number for more, number in zip(line, vector)]) for line in matrix]


def _row_forms(web):
    """The dict from each column to all to which its next cell leads in rows above, with how many cells on the way."""
    forms = {}
    for column, _ in order_by(plan(web), 1):
        form = {UNIT: 0}
        for here, there, low, high in web.edges():
            if here == column:
                for distance in range(low, high + 1):
                    led = forms[there] if distance == 0 else {("level", there, -distance - 1): 0}
                    _raise(form, led)
        forms[column] = form
    return forms


def _raise(form, led):
    for one in led:
        form[one] = max(form.get(one, 0), led[one] + 1)


def _next_form(one, forms):
    word, column, back = one
    if one == UNIT:
        return {UNIT: 0}
    return {(word, column, back - 1): 0} if back > 0 else forms[column]
