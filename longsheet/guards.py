"""Guards of a check: others of which one answers "no" wherever it errs."""

from longsheet.classes import answered_classes
from longsheet.safe import are_refused, errors_at, is_index_list
from longsheet.subsets import subsets_of


def are_guards(sheet, checks, at, thing):
    """Whether any value is an ascending list of guards of a check."""
    return is_index_list(checks, thing) and at not in thing and are_refused(_errors_of(sheet, checks, at), thing)


def all_guards(sheet, checks, at):
    """The list of all guards of a check of which none can be left out, those with fewer checks first."""
    errors = _errors_of(sheet, checks, at)
    found = []
    for some in subsets_of([index for index in range(len(checks)) if index != at]):
        if are_refused(errors, some) and not any([all([index in some for index in fewer]) for fewer in found]):
            found.append(some)
    return found


def least_guards(sheet, checks, at):
    """The first ones of these, or None."""
    found = all_guards(sheet, checks, at)
    return found[0] if found else None


def bare_entry(sheet, checks, at):
    """An entry at which a check errs and no other one answers "no", or None."""
    for entry, answers in _errors_of(sheet, checks, at):
        if "no" not in answers:
            return entry
    return None


def _errors_of(sheet, checks, at):
    return errors_at(answered_classes(sheet, checks), at)
