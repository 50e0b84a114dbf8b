"""Classes: lots of entries at which all tests of checks answer the same."""

from longsheet.asks import column_asked, input_columns, test_answer, told_by
from longsheet.back import all_numbers
from longsheet.checks import answer_with, different_tests, with_tests


def bands(tests):
    """The list of the lots of values at which each test of one column answers the same, as tuples (empty, pairs)."""
    return [(empty, spans.pairs()) for empty, spans, _ in _answered_bands(tests)]


def class_entries(sheet, checks):
    """The list of an entry for each lot of alike ones, with the first values of the bands."""
    return [entry for entry, _ in answered_classes(sheet, checks)]


def class_entry(sheet, checks, entry):
    """The one of these entries that is alike to an entry."""
    tests = different_tests(checks)
    return {column: _first_value(_own_tests(tests, column), entry[column]) for column in input_columns(sheet)}


def are_like(sheet, checks, one, other):
    """Whether two entries are alike by checks."""
    columns = input_columns(sheet)
    asked = [(test, column_asked(test)) for test in different_tests(checks) if column_asked(test) in columns]
    return all([test_answer(test, one[column]) == test_answer(test, other[column]) for test, column in asked])


def entry_apart(sheet, one, other):
    """An entry at which two checks have unlike answers, or None."""
    for entry, answers in answered_classes(sheet, [one, other]):
        if answers[0] != answers[1]:
            return entry
    return None


def answered_classes(sheet, checks):
    """The list of tuples of an entry for each lot of alike ones and the list of what the checks answer at it."""
    columns, tests = input_columns(sheet), different_tests(checks)
    in_order = [test for column in columns for test in _own_tests(tests, column)]
    numbered = [with_tests(check, lambda test: ("test", in_order.index(test))) for check in checks]
    found = [([], [])]
    for column in columns:
        told = [(spans.least(), answers) for _, spans, answers in _answered_bands(_own_tests(tests, column))]
        found = [(values + [value], ahead + answers) for values, ahead in found for value, answers in told]
    return [(dict(zip(columns, values)), _answers_by(numbered, answers)) for values, answers in found]


def _own_tests(tests, column):
    return [test for test in tests if column_asked(test) == column]


def _answers_by(numbered, answers):
    """What checks with the numbers of tests in their places answer, by the list of the answers of all tests."""
    told = lambda test: answers[test[1]]
    return [answer_with(check, told) for check in numbered]


def _answered_bands(tests):
    """The list of the bands of tests of one column, as tuples of truth, Spans, and what the tests answer there."""
    found = [(True, all_numbers(), [])]
    for test in tests:
        told = told_by(test)
        split = [(empty and told[answer][1], spans & told[answer][0], answers + [answer])
                 for empty, spans, answers in found for answer in told]
        found = [(empty, spans, answers) for empty, spans, answers in split if empty or len(spans) > 0]
    return sorted(found, key=_band_order)


def _band_order(band):
    empty, spans, _ = band
    return (False, 0) if empty else (True, spans.pairs()[0][0])


def _first_value(tests, value):
    """The first value of the band in which a value lies."""
    held = [spans for empty, spans, _ in _answered_bands(tests) if (empty if value is None else value in spans)]
    return held[0].least()
