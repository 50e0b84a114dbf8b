"""Safe orders of checks: by which no entry ever comes to a check that errs."""

from longsheet.asks import is_entry
from longsheet.checks import check_answer
from longsheet.classes import answered_classes
from longsheet.values import is_integer


def outcome(checks, order, entry):
    """What comes of an entry by an order: ("kept",), ("refused", index) or ("broken", index)."""
    return _outcome_by(order, [check_answer(check, entry) for check in checks])


def are_in_order(checks, thing):
    """Whether any value is a list of all indexes of checks."""
    return _are_indexes(checks, thing) and sorted(thing) == list(range(len(checks)))


def broken_entry(sheet, checks, order):
    """An entry that an order breaks, or None."""
    for entry, answers in answered_classes(sheet, checks):
        if _outcome_by(order, answers)[0] == "broken":
            return entry
    return None


def safe_order(sheet, checks):
    """The least order that breaks no entry, or None."""
    order = _led_order(answered_classes(sheet, checks), list(range(len(checks))))
    return order if len(order) == len(checks) else None


def stuck(sheet, checks):
    """The greatest lot of checks that is stuck, with entries that show it, or None if there is a safe order."""
    told = answered_classes(sheet, checks)
    order = _led_order(told, list(range(len(checks))))
    lot = [index for index in range(len(checks)) if index not in order]
    if not lot:
        return None
    return (lot, {index: dict(_first_breaking(told, order, index)) for index in lot})


def is_stuck(sheet, checks, thing):
    """Whether any value is a tuple of a lot of checks that is stuck and such entries."""
    if not isinstance(thing, tuple) or len(thing) != 2:
        return False
    lot, entries = thing
    if not is_index_list(checks, lot) or len(lot) == 0 or not isinstance(entries, dict):
        return False
    if not _are_indexes(checks, list(entries)) or sorted(list(entries)) != lot:
        return False
    others = [check for index, check in enumerate(checks) if index not in lot]
    return all([_shows_stuck(sheet, checks[index], others, entries[index]) for index in lot])


def must_lead(sheet, checks, one, other):
    """Whether in each safe order one check stands ahead of another one."""
    told = answered_classes(sheet, checks)
    if len(_led_order(told, list(range(len(checks))))) < len(checks):
        return True
    return other not in _led_order(told, [index for index in range(len(checks)) if index != one])


def is_index_list(checks, thing):
    """Whether any value is an ascending list of different indexes of checks."""
    return _are_indexes(checks, thing) and all([one < other for one, other in zip(thing, thing[1:])])


def errors_at(told, index):
    """Those of tuples of an entry and the answers of all checks there at which a check errs."""
    return [(entry, answers) for entry, answers in told if answers[index] == "error"]


def are_refused(told, indexes):
    """Whether in each of such tuples one of some checks answers "no"."""
    return all([any([answers[index] == "no" for index in indexes]) for _, answers in told])


def _are_indexes(checks, thing):
    return isinstance(thing, list) and all([is_integer(index) and 0 <= index < len(checks) for index in thing])


def _outcome_by(order, answers):
    for index in order:
        if answers[index] != "yes":
            return ("refused" if answers[index] == "no" else "broken", index)
    return ("kept",)


def _led_order(told, indexes):
    """The list of as many of the indexes as can stand behind one another without breaking an entry, the least first.

    What can come next can do so later, too: so none is ever missed by taking the least one.
    """
    errors = {index: errors_at(told, index) for index in indexes}
    order = []
    while True:
        ready = [index for index in indexes if index not in order and are_refused(errors[index], order)]
        if not ready:
            return order
        order.append(ready[0])


def _first_breaking(told, ahead, index):
    """The first entry at which a check errs and none of those ahead answers "no"."""
    return [entry for entry, answers in errors_at(told, index) if not are_refused([(entry, answers)], ahead)][0]


def _shows_stuck(sheet, check, others, entry):
    if not is_entry(sheet, entry) or check_answer(check, entry) != "error":
        return False
    return all([check_answer(other, entry) != "no" for other in others])
