"""Loops of the columns of a part, found step by step by their greatest sums."""

from longsheet.graph import turned_edge
from longsheet.heights import edges_within

# Beyond all ends of edges: a loop with a distance so great has a sum above 0, whatever its other steps are.
FAR = 1000


def strongest_steps(web, part):
    """For each two columns between which edges lead, the tuple (edge, distance) with the greatest distance."""
    steps = {}
    for edge in edges_within(web, part):
        here, there, low, high = edge
        distance = max(0, low or 0) + FAR if high is None else high
        if (here, there) not in steps or steps[(here, there)][1] < distance:
            steps[(here, there)] = (edge, distance)
    return list(steps.values())


def no_steps(part):
    """The walks without steps: a dict from their two ends to a tuple of their sum and the list of their steps."""
    return {(column, column): (0, []) for column in part}


def one_step_more(walks, steps):
    """Of the walks with one step more, for each two ends the one with the greatest sum, as a tuple (sum, steps)."""
    longer = {}
    for (start, end), (total, walk) in walks.items():
        for step in steps:
            here, there = step[0][:2]
            key = (start, there)
            if here == end and (key not in longer or longer[key][0] < total + step[1]):
                longer[key] = (total + step[1], walk + [step])
    return longer


def turned_loop(loop):
    """The loop of a Web that is this one in the Web turned upside down."""
    return [(turned_edge(edge), -distance) for edge, distance in loop]
