"""Rates: how fast the cells that hang on one another grow in number from row to row, with papers that show it."""

from math import gcd

from longsheet.graph import Known, Web, next_on
from longsheet.heights import edges_within, least_starts
from longsheet.loops import no_steps, one_step_more, strongest_steps, turned_loop
from longsheet.ordering import order_of
from longsheet.parts import way
from longsheet.reach import hanging_from, hanging_on
from longsheet.slopes import are_starts
from longsheet.walks import is_loop, sum_of


def rate(web, part):
    """The greatest fraction of the steps of a loop by its sum without sign, in lowest terms."""
    goes = way(web, part)
    if goes == "ring":
        return None
    return (0, 1) if goes == "alone" else _rate_of(_best_loop(web, part, goes))


def rate_paper(web, part):
    """A loop with the rate of a part, and heights by which no loop has a greater one."""
    goes = way(web, part)
    loop = _best_loop(web, part, goes)
    return (loop, least_starts(part, _rises(web, part, goes, _rate_of(loop))))


def is_rate_paper(web, part, thing):
    """Whether any value is a tuple of such a loop and such heights."""
    goes = way(web, part)
    if goes not in ("up", "down") or not isinstance(thing, tuple) or len(thing) != 2:
        return False
    loop, heights = thing
    if not is_loop(web, loop) or loop[0][0][0] not in part or not are_starts(heights):
        return False
    if sorted(list(heights)) != sorted(part):
        return False
    return all([heights[here] >= heights[there] + least
                for here, there, least in _rises(web, part, goes, _rate_of(loop))])


def longest_between(web, part, rows, start, goal):
    """The greatest number k such that a walk of k + 1 cells of a part leads from one cell to another one, or None."""
    within = Web(len(web), Known(edges_within(web, part)))
    following = _cells_between(within, rows, start, goal)
    if goal not in following:
        return None
    order = order_of(following)
    # Walks by a ring have no greatest number of cells.
    if len(order) < len(following):
        return None
    longest = {cell: 0 for cell in order}
    for cell in order:
        longest[cell] = max([longest[other] + 1 for other in following[cell]], default=0)
    return longest[start]


def _best_loop(web, part, goes):
    """A loop of a part that goes up or down with the most steps by its sum."""
    if goes == "down":
        return turned_loop(_best_loop(~web, part, "up"))
    steps = strongest_steps(web, part)
    walks = no_steps(part)
    best, least = [], 0
    # A loop that comes to a column twice is made of two shorter ones, one of which has no lesser rate.
    for _ in part:
        walks = one_step_more(walks, steps)
        for (start, end), (total, walk) in walks.items():
            if start == end and (not best or len(walk) * least < len(best) * total):
                best, least = walk, total
    return best


def _rate_of(loop):
    many, far = len(loop), abs(sum_of(loop))
    return (many // gcd(many, far), far // gcd(many, far))


def _rises(web, part, goes, fraction):
    """The list of tuples (here, there, least): by how much heights have to rise along edges.

    Of all distances of an edge the one asks for most that leads the way the least far.
    """
    over, under = fraction
    return [(here, there, under + over * high if goes == "up" else under - over * low)
            for here, there, low, high in edges_within(web, part)]


def _cells_between(web, rows, start, goal):
    """The dict from each cell on a walk between two cells to the list of those behind it on such walks."""
    led = {cell: True for cell in [start] + hanging_on(web, rows, start)}
    between = [cell for cell in [goal] + hanging_from(web, rows, goal) if cell in led]
    kept = {cell: True for cell in between}
    return {cell: [other for other in next_on(web, rows, cell) if other in kept] for cell in kept}
