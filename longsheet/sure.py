"""What checks make sure of: which entries they keep, and that no divisor of a column is 0 at these."""

from longsheet.asks import input_columns
from longsheet.checks import check_answer
from longsheet.classes import answered_classes
from longsheet.errors import NotReady
from longsheet.formulas import parts, reads, with_reads
from longsheet.names import column_of
from longsheet.subsets import subsets_of
from longsheet.values import plain
from longsheet.working import worked_out

# A check that answers "yes" at each entry.
ALWAYS = ("all", ())


def is_kept(checks, entry):
    """Whether all checks answer "yes" at an entry."""
    return all([check_answer(check, entry) == "yes" for check in checks])


def entry_between(sheet, one, other):
    """An entry that one list of checks keeps and the other one does not, or None."""
    for entry, answers in answered_classes(sheet, list(one) + list(other)):
        if _are_yes(answers[:len(one)]) and not _are_yes(answers[len(one):]):
            return entry
    return None


def covers(sheet, one, other):
    """Whether the other list of checks keeps each entry that the one does."""
    return entry_between(sheet, one, other) is None


def needless(sheet, checks):
    """The ascending list of the indexes of the checks without each of which the same entries are kept."""
    told = [answers for _, answers in answered_classes(sheet, checks)]
    return [at for at in range(len(checks))
            if not any([answers[at] != "yes" and _are_yes(answers[:at] + answers[at + 1:]) for answers in told])]


def divisors(formula):
    """The list of the formulas by which the overs of a formula divide, that of an over ahead of those within it."""
    own = [formula[2]] if formula[0] == "over" else []
    return own + [divisor for part in parts(formula) for divisor in divisors(part)]


def is_ready(sheet, column):
    """Whether a column is ready: made of inputs of its row alone, and dividing by what hangs on one of these."""
    return column in _ready_columns(sheet)


def zero_entry(sheet, checks, column):
    """An entry that checks keep at which a divisor of a ready column, or of one that it reads, is 0; or None."""
    for entry, answers in answered_classes(sheet, list(checks) + _zero_checks(sheet, column)):
        if _are_yes(answers[:len(checks)]) and "yes" in answers[len(checks):]:
            return entry
    return None


def protecting(sheet, checks, column):
    """The fewest checks, as a list of indexes, that keep no such entry; None if all together keep one."""
    told = [answers for _, answers in answered_classes(sheet, list(checks) + _zero_checks(sheet, column))]
    zeros = [answers for answers in told if "yes" in answers[len(checks):]]
    for some in subsets_of(list(range(len(checks)))):
        if not any([_are_yes([answers[index] for index in some]) for answers in zeros]):
            return some
    return None


def _are_yes(answers):
    return all([answer == "yes" for answer in answers])


def _ready_columns(sheet):
    inputs, ready = input_columns(sheet), []
    while True:
        more = [column for column in range(len(sheet)) if column not in inputs and column not in ready
                and _rests_on(sheet, column, inputs, inputs + ready)]
        if not more:
            return ready
        ready = ready + more


def _rests_on(sheet, column, inputs, known):
    """Whether a column reads known ones in its own row alone, and each of its divisors at most one input."""
    body = sheet[column][1]
    if not all([_is_in_row(read) and column_of(read, column) in known for read in reads(body)]):
        return False
    asked = [[column_of(read, column) for read in reads(divisor)] for divisor in divisors(body)]
    return all([len(columns) == 0 or (len(columns) == 1 and columns[0] in inputs) for columns in asked])


def _is_in_row(read):
    return read[0] == "name" and read[2] == ("by", 0)


def _zero_checks(sheet, column):
    """The checks of which one answers "yes" just where a divisor of a ready column, or of one it reads, is 0."""
    if not is_ready(sheet, column):
        raise NotReady(column)
    waiting, found = [column], []
    at = 0
    while at < len(waiting):
        here = waiting[at]
        body = sheet[here][1]
        for there in [column_of(read, here) for read in reads(body)]:
            if there not in waiting:
                waiting.append(there)
        found.extend([check for divisor in divisors(body) for check in _zero_check(divisor, here)])
        at += 1
    return found


def _zero_check(divisor, column):
    """A list of the check whether a divisor that stands in a column is 0; empty if it never is."""
    told = reads(divisor)
    if not told:
        return [ALWAYS] if plain(worked_out(divisor, [])) == 0 else []
    name = ("name", ("at", column_of(told[0], column)), ("by", 0))
    return [("asks", with_reads(divisor, [name]), "=", 0)]
