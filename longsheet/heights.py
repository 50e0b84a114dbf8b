"""Heights of columns that fall along the edges between them."""


def edges_within(web, columns):
    """The list of the edges between some columns of a Web."""
    return [edge for edge in web.edges() if edge[0] in columns and edge[1] in columns]


def falls(edges, step):
    """The list of tuples (here, there, least) by how much moments have to fall along edges; None if none is enough.

    Of all distances of an edge the one that asks for most counts: with a step above 0 the highest one, below 0
    the lowest one; if there is no end at this side, no fall is enough.
    """
    found = []
    for here, there, low, high in edges:
        end = high if step > 0 else low
        if step != 0 and end is None:
            return None
        found.append((here, there, 1 if step == 0 else step * end + 1))
    return found


def are_fallen(starts, told):
    """Whether starts fall as much as told along all edges."""
    return all([starts[here] >= starts[there] + least for here, there, least in told])


def least_starts(columns, told):
    """The dict of the least starts from 0 on that fall as much as told, or None if there are none."""
    starts = {column: 0 for column in columns}
    # The starts stand firm when each column has been raised along a chain of all others; if not, a loop raises them.
    for _ in columns:
        for here, there, least in told:
            starts[here] = max(starts[here], starts[there] + least)
    return starts if are_fallen(starts, told) else None
