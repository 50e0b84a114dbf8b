"""Sweeps: the cells reckoned down and up the rows by turns, as few times as can be."""

from longsheet.heights import are_fallen, edges_within, falls, least_starts
from longsheet.orders import is_column_list, must_have_plan
from longsheet.parts import parts, way
from longsheet.slopes import are_starts
from longsheet.values import is_integer

# As many as a Web has columns at most: with it the moments of each part that goes one way fall.
STEP = 8


def are_sweeps(web, thing):
    """Whether any value is a list of sweeps of a Web, down and up by turns."""
    if not isinstance(thing, list):
        return False
    turns = {}
    for turn, sweep in enumerate(thing):
        if not _is_sweep(web, sweep):
            return False
        if turn > 0 and (sweep[0] > 0) == (thing[turn - 1][0] > 0):
            return False
        for column in list(sweep[1]):
            if column in turns:
                return False
            turns[column] = turn
    return len(turns) == len(web) and all([turns[edge[1]] <= turns[edge[0]] for edge in web.edges()])


def fewest_sweeps(web, first):
    """The least number of sweeps of a Web, the first one going as first tells."""
    must_have_plan(web)
    return _sweeps_up_to([entry[1] for entry in _numbered(web, first)])


def sweeps(web, first):
    """As few sweeps as there can be, the first one going as first tells."""
    must_have_plan(web)
    numbered = _numbered(web, first)
    many = _sweeps_up_to([entry[1] for entry in numbered])
    found = []
    for turn in range(many):
        columns = sorted([column for entry in numbered if entry[1] == turn for column in entry[0]])
        step = _step(web, first, turn)
        found.append((step, least_starts(columns, falls(edges_within(web, columns), step))))
    return found


def row_needs(web, first, row):
    """How many sweeps a row of parts needs."""
    must_have_plan(web)
    numbers = []
    for at, part in enumerate(row):
        if at == 0:
            numbers.append(_least_number(web, first, part))
        else:
            numbers.append(_number_behind(web, first, part, row[at - 1], numbers[-1]))
    return _sweeps_up_to(numbers)


def needing_row(web, first):
    """A row that needs as many sweeps as there are at least."""
    must_have_plan(web)
    numbered = _numbered(web, first)
    row = []
    at = None
    for index, entry in enumerate(numbered):
        if at is None or entry[1] > numbered[at][1]:
            at = index
    while at is not None:
        row = [numbered[at][0]] + row
        at = numbered[at][2]
    return row


def is_row(web, thing):
    """Whether any value is a list of different parts, from each of which edges lead to the one ahead of it."""
    if not isinstance(thing, list):
        return False
    found = parts(web)
    for at, part in enumerate(thing):
        if not is_column_list(web, part) or part not in found or part in thing[:at]:
            return False
        if at > 0 and not _edges_between(web, part, thing[at - 1]):
            return False
    return True


def _is_sweep(web, thing):
    if not isinstance(thing, tuple) or len(thing) != 2:
        return False
    step, starts = thing
    if not is_integer(step) or step == 0 or not are_starts(starts):
        return False
    if not all([0 <= column < len(web) for column in list(starts)]):
        return False
    told = falls(edges_within(web, list(starts)), step)
    return told is not None and are_fallen(starts, told)


def _step(web, first, number):
    """The step of the sweep with this number; a Web beyond the bounds has more columns than the usual step."""
    step = max(STEP, len(web))
    return step if (first == "down") == (number // 2 * 2 == number) else -step


def _numbered(web, first):
    """The list of tuples (part, number, ahead), in the order of the parts: the number is the least one of a sweep
    in which the part can stand; ahead is the index of the part that makes it so great, or None."""
    numbered = []
    for part in parts(web):
        number, ahead = _least_number(web, first, part), None
        for at, entry in enumerate(numbered):
            if _edges_between(web, part, entry[0]):
                needed = _number_behind(web, first, part, entry[0], entry[1])
                if needed > number:
                    number, ahead = needed, at
        numbered.append((part, number, ahead))
    return numbered


def _least_number(web, first, part):
    return 0 if _can_stand(web, first, part, 0) else 1


def _number_behind(web, first, part, other, number):
    """The least number, from that of another part on, of a sweep in which a part can stand behind it."""
    if _can_stand(web, first, part, number):
        if falls(_edges_between(web, part, other), _step(web, first, number)) is not None:
            return number
    return number + 1 if _can_stand(web, first, part, number + 1) else number + 2


def _can_stand(web, first, part, number):
    goes = way(web, part)
    if goes == "alone":
        return True
    return (goes == "up") == (_step(web, first, number) > 0)


def _edges_between(web, part, other):
    return [edge for edge in web.edges() if edge[0] in part and edge[1] in other]


def _sweeps_up_to(numbers):
    return max([number + 1 for number in numbers], default=0)
