"""Checks: tests that are joined by all, any and not."""

from longsheet.asks import column_asked, input_columns, is_test, test_answer
from longsheet.names import is_made

TURNED = {"error": "error", "no": "yes", "yes": "no"}
# What ends the asking of the parts, and what is answered if nothing ends it.
ENDED_BY = {"all": ("no", "yes"), "any": ("yes", "no")}


def is_check(thing):
    """Whether any value is a check."""
    if is_made(thing, "all", 2) or is_made(thing, "any", 2):
        return are_checks(thing[1]) and isinstance(thing[1], tuple)
    if is_made(thing, "not", 2):
        return is_check(thing[1])
    return is_test(thing)


def are_checks(thing):
    """Whether any value is a list or a tuple of checks."""
    return isinstance(thing, (list, tuple)) and all([is_check(part) for part in thing])


def fits_sheet(check, sheet):
    """Whether all columns that the tests of a check ask are input columns."""
    columns = input_columns(sheet)
    return all([column_asked(test) in columns for test in tests_of(check)])


def tests_of(check):
    """The list of the tests of a check, as they stand, each once."""
    return different_tests([check])


def different_tests(checks):
    """The list of the tests of several checks, as they stand, each once."""
    found = []
    for test in [test for check in checks for test in _all_tests(check)]:
        if test not in found:
            found.append(test)
    return found


def check_answer(check, entry):
    """What a check answers at an entry: "yes", "no" or "error"."""
    return answer_with(check, _answers_at(entry))


def asked_of(check, entry):
    """The list of the tuples (test, answer) that are asked at an entry, in order."""
    asked = []
    _ask(check, _answers_at(entry), asked)
    return asked


def answer_with(check, told):
    """What a check answers if told(test) is what its tests do."""
    return _ask(check, told, [])


def with_tests(check, others):
    """The check with others(test) in the places of its tests."""
    if check[0] == "not":
        return ("not", with_tests(check[1], others))
    if check[0] in ENDED_BY:
        return (check[0], tuple([with_tests(part, others) for part in check[1]]))
    return others(check)


def _all_tests(check):
    if check[0] == "not":
        return _all_tests(check[1])
    if check[0] in ENDED_BY:
        return [test for part in check[1] for test in _all_tests(part)]
    return [check]


def _answers_at(entry):
    return lambda test: test_answer(test, entry[column_asked(test)])


def _ask(check, told, asked):
    """The answer of a check; puts all that is asked behind what stands in asked."""
    word = check[0]
    if word == "not":
        return TURNED[_ask(check[1], told, asked)]
    if word not in ENDED_BY:
        answer = told(check)
        asked.append((check, answer))
        return answer
    end, otherwise = ENDED_BY[word]
    for part in check[1]:
        answer = _ask(part, told, asked)
        if answer in ("error", end):
            return answer
    return otherwise
