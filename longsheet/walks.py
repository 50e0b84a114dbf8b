"""Walks and rings of body cells, and loops of an endless body."""

from longsheet.graph import has_distance, is_cell, next_on
from longsheet.values import is_integer


def is_walk(web, rows, thing):
    """Whether any value is a list of cells, each of which hangs next on the one behind it."""
    if not _are_cells(web, rows, thing):
        return False
    return all([_hangs_next(web, one, other) for one, other in zip(thing, thing[1:])])


def is_web_ring(web, rows, thing):
    """Whether any value is a walk of different cells, the last of which hangs next on the first."""
    if not is_walk(web, rows, thing) or len(set(thing)) < len(thing):
        return False
    return _hangs_next(web, thing[-1], thing[0])


def is_loop(web, thing):
    """Whether any value is a list of edges with one of their distances each, that leads back to where it begins."""
    if not isinstance(thing, list) or len(thing) == 0:
        return False
    for step in thing:
        if not is_step(web, step):
            return False
    return all([ahead[0][1] == step[0][0] for ahead, step in zip(thing[-1:] + thing[:-1], thing)])


def sum_of(loop):
    """The sum of the distances of a loop."""
    return sum([distance for _, distance in loop])


def walk_between(web, rows, start, goal):
    """A walk from one cell to another one of as few cells as possible, or None."""
    if start == goal:
        return [start]
    return walk_of_steps(web, rows, start, goal)


def walk_of_steps(web, rows, start, goal):
    """A walk of at least two cells from one cell to another one, or to itself, of as few as possible, or None."""
    came = {}
    waiting = [start]
    at = 0
    while at < len(waiting):
        here = waiting[at]
        for cell in next_on(web, rows, here):
            if cell not in came:
                came[cell] = here
                waiting.append(cell)
            if cell == goal:
                return _walk_back(came, start, goal)
        at += 1
    return None


def is_step(web, thing):
    """Whether any value is a tuple of an edge of a Web and one of its distances."""
    if not isinstance(thing, tuple) or len(thing) != 2 or not is_integer(thing[1]):
        return False
    edge = thing[0]
    if not isinstance(edge, tuple) or any([isinstance(part, bool) for part in edge]):
        return False
    return edge in web.edges() and has_distance(edge, thing[1])


def _walk_back(came, start, goal):
    walk = [goal, came[goal]]
    while walk[-1] != start:
        walk.append(came[walk[-1]])
    return walk[::-1]


def _are_cells(web, rows, thing):
    if not isinstance(thing, list) or len(thing) == 0:
        return False
    for cell in thing:
        if not is_cell(web, rows, cell):
            return False
    return True


def _hangs_next(web, cell, other):
    distance = other[1] - cell[1]
    ways = [edge for edge in web.edges() if edge[0] == cell[0] and edge[1] == other[0]]
    return any([has_distance(edge, distance) for edge in ways])
