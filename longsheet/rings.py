"""Rings: loops that go against each other, and the least number of rows at which cells hang on themselves."""

from longsheet.formulas import reads
from longsheet.graph import web_of
from longsheet.heights import edges_within
from longsheet.loops import no_steps, one_step_more, strongest_steps, turned_loop
from longsheet.masks import cells_in, ringed_masks
from longsheet.names import column_of
from longsheet.parts import parts, way
from longsheet.walks import is_loop, sum_of, walk_of_steps


def against(web, part):
    """Two loops from one column of a part whose way is "ring", with sums not below and not above 0; or None."""
    if way(web, part) != "ring":
        return None
    risen = strongest_steps(web, part)
    fallen = strongest_steps(~web, part)
    ups, downs = {}, {}
    up_walks, down_walks = no_steps(part), no_steps(part)
    while True:
        up_walks, down_walks = one_step_more(up_walks, risen), one_step_more(down_walks, fallen)
        _keep_loops(up_walks, ups)
        _keep_loops(down_walks, downs)
        for column in part:
            if column in ups and column in downs:
                return (ups[column], turned_loop(downs[column]))


def is_against(web, part, thing):
    """Whether any value is a tuple of two such loops."""
    if not isinstance(thing, tuple) or len(thing) != 2:
        return False
    one, other = thing
    if not is_loop(web, one) or not is_loop(web, other):
        return False
    start = one[0][0][0]
    return start in part and start == other[0][0][0] and sum_of(other) <= 0 <= sum_of(one)


def least_ring(web):
    """The least number of rows at which there is a ring, or None if there is none at any."""
    edges = [edge for part in _ring_parts(web) for edge in edges_within(web, part)]
    if not edges:
        return None
    without, rows = 0, 1
    while not _has_ring(web, edges, rows):
        without, rows = rows, rows * 2
    while rows - without > 1:
        between = (without + rows) // 2
        if _has_ring(web, edges, between):
            rows = between
        else:
            without = between
    return rows


def ring_at(web, rows):
    """A ring of as few cells as possible, or None."""
    length = least_ring(web)
    if length is None or rows < length:
        return None
    # Each ring can be moved up until it has a cell in row 0.
    columns = [column for part in _ring_parts(web) for column in part]
    walks = [walk_of_steps(web, rows, (column, 0), (column, 0)) for column in columns]
    return min([walk[:-1] for walk in walks if walk is not None], key=len)


def ringed(web, rows):
    """The ascending list of the cells that lie on a ring, or from which a walk leads to one."""
    return cells_in(ringed_masks(len(web), web.edges(), rows))


def first_ring(sheet):
    """The least number of rows at which any cell of a sheet lies on a ring, or None."""
    # Heads read heads alone, and what reads a foot is a foot: rings of these are there at all numbers of rows.
    if _have_ring(sheet, 0, "head") or _have_ring(sheet, 2, "foot"):
        return 0
    return least_ring(web_of(sheet))


def _ring_parts(web):
    return [part for part in parts(web) if way(web, part) == "ring"]


def _have_ring(sheet, place, row):
    """Whether the heads or feet of a sheet, as they read each other, close a ring."""
    left = list(range(len(sheet)))
    while True:
        kept = [here for here in left if _reads_any(sheet[here][place], here, row, left)]
        if kept == left:
            return len(left) > 0
        left = kept


def _reads_any(formula, here, row, columns):
    names = [read for read in reads(formula) if read[0] == "name" and read[2][0] == row]
    return any([column_of(read, here) in columns for read in names])


def _has_ring(web, edges, rows):
    return any([mask != 0 for mask in ringed_masks(len(web), edges, rows)])


def _keep_loops(walks, loops):
    for (start, end), (total, walk) in walks.items():
        if start == end and total >= 0 and start not in loops:
            loops[start] = walk
