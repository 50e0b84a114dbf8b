"""What if: the values that a cell has with other numbers in inputs."""

from longsheet.kept import Kept
from longsheet.values import plain


def what_if(sheet, rows, contents, address, moving, lists):
    """The list of the values of a cell with each list of numbers, or None, in the moving inputs."""
    return _values_with(Kept(sheet, rows, contents), address, moving, lists)


def table(sheet, rows, contents, address, one, other, firsts, seconds):
    """The list of lists of the values of a cell: for each of firsts in one input, each of seconds in another one."""
    kept = Kept(sheet, rows, contents)
    return [_values_with(kept, address, [one, other], [[first, second] for second in seconds]) for first in firsts]


def first_with(sheet, rows, contents, goal, one, low, high):
    """The least number from low to high in an input with which a goal is reached, or None."""
    address, wished = goal
    kept = Kept(sheet, rows, contents)
    for number in range(low, high + 1):
        kept.change(one, number)
        if plain(kept.value_of(address)) == wished:
            return number
    return None


def _values_with(kept, address, moving, lists):
    found = []
    for numbers in lists:
        for here, number in zip(moving, numbers):
            kept.change(here, number)
        found.append(kept.value_of(address))
    return found
