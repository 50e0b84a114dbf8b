"""Goals: linear forms of cells, and the whole numbers with which a cell comes to a wished answer."""

from longsheet.cells import is_input
from longsheet.errors import NoGoal, NotLinear
from longsheet.forms import terms_of, without_zeros
from longsheet.formulas import is_linear
from longsheet.ordering import order_of
from longsheet.reckoning import meant_from, next_by
from longsheet.values import is_integer


def form_at(sheet, rows, address):
    """The linear form (constant, weights) of a cell by the inputs on which it hangs."""
    meant = meant_from(sheet, rows, address)
    if not all([_is_plain(sheet, rows, here, meant[here]) for here in meant]):
        raise NotLinear(address)
    order = order_of(next_by(meant))
    if len(order) < len(meant):
        raise NotLinear(address)
    return _form_of(sheet, rows, address, meant, order)


def is_solution(sheet, rows, contents, goal, moving, thing):
    """Whether any value is a list of integers, one for each moving input, with which the goal is reached."""
    lacking, weights = _asked(sheet, rows, contents, goal, moving)
    if not isinstance(thing, list) or len(thing) != len(moving):
        return False
    if not all([is_integer(number) for number in thing]):
        return False
    return sum([weight * number for weight, number in zip(weights, thing)]) == lacking


def solutions(sheet, rows, contents, goal, moving):
    """A solution, and steps whose whole-number multiples lead from it to all others, to each in one way."""
    lacking, weights = _asked(sheet, rows, contents, goal, moving)
    divisor, leading, steps = _divisor_of(weights)
    if not _divides(divisor, lacking):
        raise NoGoal()
    many = 0 if divisor == 0 else lacking // divisor
    return ([many * part for part in leading], steps)


def bar(sheet, rows, contents, goal, moving):
    """An integer that divides all weights of moving inputs, and not what is lacking from the goal; or None."""
    lacking, weights = _asked(sheet, rows, contents, goal, moving)
    divisor = abs(_divisor_of(weights)[0])
    return None if _divides(divisor, lacking) else divisor


def is_bar(sheet, rows, contents, goal, moving, thing):
    """Whether any value is such an integer."""
    lacking, weights = _asked(sheet, rows, contents, goal, moving)
    if not is_integer(thing):
        return False
    if not any([weight != 0 for weight in weights]):
        return thing == 0 and lacking != 0
    return thing >= 2 and all([weight % thing == 0 for weight in weights]) and lacking % thing != 0


def _is_plain(sheet, rows, address, meant):
    return is_linear(sheet.formula_at(address, rows)) and all([cells is not None for cells in meant])


def _form_of(sheet, rows, address, meant, order):
    """The form of a cell, its weight being handed on from each cell to those on which it hangs next."""
    weights = {here: 0 for here in order}
    weights[address] = 1
    constant = 0
    for here in order[::-1]:
        formula = sheet.formula_at(here, rows)
        if formula[0] == "input":
            continue
        more, terms = terms_of(formula)
        constant = constant + weights[here] * more
        for (factor, _), cells in zip(terms, meant[here]):
            for cell in cells:
                weights[cell] = weights[cell] + weights[here] * factor
    inputs = {here: weights[here] for here in order if is_input(sheet, rows, here)}
    return (constant, without_zeros(inputs))


def _asked(sheet, rows, contents, goal, moving):
    """What is lacking from the goal with all moving inputs 0, and the list of their weights."""
    address, number = goal
    constant, weights = form_at(sheet, rows, address)
    stays = [weights[here] * contents.get(here, 0) for here in weights if here not in moving]
    return (number - constant - sum(stays), [weights.get(here, 0) for here in moving])


def _divides(divisor, number):
    return number == 0 if divisor == 0 else number % divisor == 0


def _divisor_of(weights):
    """The greatest number that divides all weights, perhaps with a minus, what it comes of, and what 0 comes of.

    What it comes of and the steps to 0 are made of the units by taking multiples of one of two from the other
    alone, so that each list of whole numbers is in just one way a sum of multiples of them.
    """
    divisor, leading, steps = 0, [0] * len(weights), []
    for at, weight in enumerate(weights):
        unit = [1 if here == at else 0 for here in range(len(weights))]
        if weight == 0:
            steps.append(unit)
        elif divisor == 0:
            divisor, leading = weight, unit
        else:
            divisor, leading, step = _joined(divisor, leading, weight, unit)
            steps.append(step)
    return (divisor, leading, steps)


def _joined(one, leading, other, step):
    while other != 0:
        times = one // other
        one, other = other, one - times * other
        leading, step = step, [ahead - times * part for ahead, part in zip(leading, step)]
    return (one, leading, step)
