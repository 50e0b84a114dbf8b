"""Distances: the sums of all walks between two columns of an endless body, told by what repeats on both sides."""

from longsheet.graph import turned_edge
from longsheet.masks import led_along, masks_led_to, rows_of
from longsheet.walks import is_step


def distances(web, here, there):
    """The tide (below, near, above) of the distances from a column to another one, or to itself."""
    bound = _bound(web)
    last = 3 * bound
    far = last + bound
    # A body long enough stands for the endless one: its rows are the distances from the one in its middle.
    rows = rows_of(masks_led_to(len(web), web.edges(), 2 * far + 1, (here, far))[there])
    found = {row - far: True for row in rows}
    below = _side(found, -1, bound, last)
    above = _side(found, 1, bound, last)
    return (below, [number for number in range(below[0], above[0] + 1) if number in found], above)


def is_distance(tide, number):
    """Whether an integer is one of the distances that a tide tells."""
    below, near, above = tide
    if number < below[0]:
        return number % below[1] in below[2]
    if number > above[0]:
        return number % above[1] in above[2]
    return number in near


def count_distances(tide, low, high):
    """How many distances there are from low to high."""
    below, near, above = tide
    found = len([number for number in near if low <= number <= high])
    return found + _count(below, low, min(high, below[0] - 1)) + _count(above, max(low, above[0] + 1), high)


def steps_for(web, here, there, number):
    """As few steps as possible from a column to another one whose distances sum up to a number, or None."""
    far = abs(number) + _bound(web)
    rows = 2 * far + 1
    start = [1 << far if column == here else 0 for column in range(len(web))]
    layers = [start]
    seen = [0] * len(web)
    while any([mask != 0 for mask in layers[-1]]):
        fresh = [mask & ~old for mask, old in zip(_led_on(web, layers[-1], rows), seen)]
        seen = [mask | old for mask, old in zip(fresh, seen)]
        layers.append(fresh)
        if fresh[there] >> far + number & 1:
            return _steps_back(web, layers, rows, there, far + number)
    return None


def are_steps(web, here, there, thing):
    """Whether any value is a list of steps that leads from a column to another one, or to itself."""
    if not isinstance(thing, list) or len(thing) == 0:
        return False
    for step in thing:
        if not is_step(web, step):
            return False
    if thing[0][0][0] != here or thing[-1][0][1] != there:
        return False
    return all([ahead[0][1] == step[0][0] for ahead, step in zip(thing, thing[1:])])


def _bound(web):
    """A number beyond which the distances repeat on both sides.

    Loops without loops inside are no longer than the columns are many; a sum of them that is greater than the
    square of what one of them can come to is one of all multiples of what divides them all. The walk to which
    they are put has come to each column.
    """
    ends = [abs(end) for edge in web.edges() for end in edge[2:] if end is not None]
    loop = len(web) * max(ends + [1]) + 1
    return loop * (loop + len(web))


def _side(found, sign, bound, last):
    """The tuple (end, modulus, rests) of one side, by what is found up to last."""
    modulus = 1
    while not _repeats(found, sign, modulus, bound, last):
        modulus += 1
    rests = [sign * number % modulus for number in range(bound, bound + modulus) if sign * number in found]
    end = bound
    while end > 0 and (sign * end in found) == (sign * end % modulus in rests):
        end -= 1
    return (sign * end, modulus, sorted(rests))


def _repeats(found, sign, modulus, bound, last):
    return all([(sign * number in found) == (sign * (number + modulus) in found)
                for number in range(bound, last - modulus + 1)])


def _count(side, low, high):
    modulus = side[1]
    if low > high:
        return 0
    return sum([(high - rest) // modulus - (low - 1 - rest) // modulus for rest in side[2]])


def _led_on(web, masks, rows):
    led = [0] * len(web)
    for here, there, low, high in web.edges():
        led[there] = led[there] | led_along(masks[here], low, high, rows)
    return led


def _steps_back(web, layers, rows, there, row):
    """The steps that lead to a row of a column in the last layer, each from the layer ahead."""
    steps = []
    for layer in layers[-2::-1]:
        edge, ahead = _step_from(web, layer, rows, there, row)
        steps.append((edge, row - ahead))
        there, row = edge[0], ahead
    return steps[::-1]


def _step_from(web, layer, rows, there, row):
    for edge in web.edges():
        low, high = turned_edge(edge)[2:]
        mask = layer[edge[0]] & led_along(1 << row, low, high, rows) if edge[1] == there else 0
        if mask != 0:
            return (edge, (mask & -mask).bit_length() - 1)
    return None
