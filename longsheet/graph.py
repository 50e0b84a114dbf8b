"""Webs: which body cells hang next on which, told by columns and row distances."""

from longsheet.errors import Wrong
from longsheet.formulas import reads
from longsheet.names import column_of
from longsheet.values import is_integer

MOST_COLUMNS = 8
MOST_EDGES = 48
FARTHEST_END = 5


class Known:
    """Edges that come of a sheet or of another Web: the bounds of sheets are not checked, so neither are these."""

    def __init__(self, edges):
        self.known = edges


class Web:
    """Columns and the edges between them; it never changes."""

    def __init__(self, many, edges):
        if isinstance(edges, Known):
            told = edges.known
        else:
            told = edges
            if not is_integer(many) or not 0 <= many <= MOST_COLUMNS:
                raise Wrong(0)
            if not _are_edges(edges, many):
                raise Wrong(1)
        different = sorted(list({edge: True for edge in told}), key=_edge_order)
        self._leading = [[edge for edge in different if edge[0] == here] for here in range(many)]

    def __len__(self):
        return len(self._leading)

    def __eq__(self, other):
        return isinstance(other, Web) and self._leading == other._leading

    def __invert__(self):
        return Web(len(self._leading), Known([turned_edge(edge) for edge in self.edges()]))

    def edges(self):
        """The list of the different edges, in order."""
        return [edge for leading in self._leading for edge in leading]


def web_of(sheet):
    """The Web of the bodies of a sheet."""
    edges = [edge for here in range(len(sheet)) for edge in _edges_of(sheet, here)]
    return Web(len(sheet), Known(edges))


def next_on(web, rows, cell):
    """The ascending list of the cells on which a cell hangs next."""
    column, row = cell
    return _cells_led_to(rows, row, [edge[1:] for edge in web.edges() if edge[0] == column])


def next_from(web, rows, cell):
    """The ascending list of the cells that hang next on a cell."""
    column, row = cell
    # Seen from the other end, an edge leads the other way by the same distances with the other sign.
    back = [(here, low, high) for here, there, low, high in (~web).edges() if there == column]
    return _cells_led_to(rows, row, back)


def is_cell(web, rows, thing):
    """Whether any value is a cell of a Web at so many rows."""
    if not isinstance(thing, tuple) or len(thing) != 2:
        return False
    column, row = thing
    return is_integer(column) and is_integer(row) and 0 <= column < len(web) and 0 <= row < rows


def turned_edge(edge):
    """The edge between the same columns whose distances have the other sign."""
    here, there, low, high = edge
    return (here, there, None if high is None else -high, None if low is None else -low)


def has_distance(edge, distance):
    """Whether an integer is one of the distances of an edge."""
    low, high = edge[2:]
    return (low is None or low <= distance) and (high is None or distance <= high)


def _are_edges(things, many):
    if not isinstance(things, (list, tuple)) or len(things) > MOST_EDGES:
        return False
    for thing in things:
        if not _is_edge(thing, many):
            return False
    return True


def _is_edge(thing, many):
    if not isinstance(thing, tuple) or len(thing) != 4:
        return False
    here, there, low, high = thing
    if not _is_below(here, many) or not _is_below(there, many) or not _is_end(low) or not _is_end(high):
        return False
    return low is None or high is None or low <= high


def _is_below(thing, many):
    return is_integer(thing) and 0 <= thing < many


def _is_end(thing):
    return thing is None or (is_integer(thing) and -FARTHEST_END <= thing <= FARTHEST_END)


def _edge_order(edge):
    here, there, low, high = edge
    return (here, there, low is not None, low or 0, high is None, high or 0)


def _edges_of(sheet, here):
    edges = []
    for read in reads(sheet[here][1]):
        there = column_of(read, here)
        ends = _ends_of(read)
        if ends and there is not None and 0 <= there < len(sheet):
            edges.append((here, there) + ends)
    return edges


def _ends_of(read):
    """The tuple (low, high) of the distances at which a name or range leads to body cells; empty if it has none."""
    if read[0] == "rows":
        low, high = read[2:]
        return (low, high) if low is None or high is None or low <= high else ()
    row = read[2]
    return (row[1], row[1]) if row[0] == "by" else ()


def _cells_led_to(rows, row, ways):
    found = {}
    for column, low, high in ways:
        first = 0 if low is None else max(0, row + low)
        last = rows - 1 if high is None else min(rows - 1, row + high)
        for led in range(first, last + 1):
            found[(column, led)] = True
    return sorted(found)
