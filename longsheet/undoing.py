"""What integers lead into Spans: when they are added to, multiplied, divided, divide, or are compared."""

from longsheet.spans import Spans


def holding(sign, number):
    """The Spans of the integers that are to a number as a sign tells."""
    if sign == "=":
        return Spans([(number, number)])
    if sign == "<>":
        return ~Spans([(number, number)])
    if sign == "<":
        return Spans([(None, number - 1)])
    if sign == "<=":
        return Spans([(None, number)])
    return Spans([(number + 1, None)]) if sign == ">" else Spans([(number, None)])


def before_adding(number, spans):
    """The Spans of the integers that come into others when a number is added."""
    return Spans([(_shifted(low, -number), _shifted(high, -number)) for low, high in spans])


def before_multiplying(number, spans):
    """The Spans of the integers that come into others when they are multiplied by a number other than 0."""
    if number < 0:
        return before_multiplying(-number, _turned(spans))
    return _spans_of([(None if low is None else -(-low // number), None if high is None else high // number)
                      for low, high in spans])


def before_most(number, spans):
    """The Spans of the integers that come into others when the greater one of them and a number, or None, is taken."""
    if number is None:
        return spans
    least = holding(">=", number)
    return (spans & least) | (~least if number in spans else Spans([]))


def before_least(number, spans):
    """The Spans of the integers that come into others when the lesser one of them and a number, or None, is taken."""
    return _turned(before_most(None if number is None else -number, _turned(spans)))


def before_dividing(divisor, spans):
    """The Spans of the integers that come into others when they are divided by a number other than 0."""
    if divisor < 0:
        # Rounding down goes the same way for both with the other sign.
        return _turned(before_dividing(-divisor, spans))
    return Spans([(None if low is None else low * divisor, None if high is None else high * divisor + divisor - 1)
                  for low, high in spans])


def divisors_into(number, spans):
    """The Spans of the divisors other than 0 that lead from a number into others."""
    if number < 0:
        return _turned(divisors_into(-number, spans))
    if number == 0:
        return ~Spans([(0, 0)]) if 0 in spans else Spans([])
    return _spans_of([_above_zero(number, low, high) for low, high in spans if high is None or high >= 0]
                     + [_below_zero(number, low, high) for low, high in spans if low is None or low < 0])


def _above_zero(number, low, high):
    """The ends of the divisors above 0 of a number above 0 with quotients from low to high, high not below 0."""
    first = 1 if high is None else number // (high + 1) + 1
    return (first, None if low is None or low <= 0 else number // low)


def _below_zero(number, low, high):
    """The ends of the divisors below 0 of a number above 0 with quotients from low to high, low below 0."""
    first = None if high is None or high >= -1 else -((number - 1) // (-high - 1))
    return (first, -1 if low is None else number // low)


def _spans_of(ends):
    """The Spans of the integers between ends, of which some may have none between them."""
    return Spans([(low, high) for low, high in ends if low is None or high is None or low <= high])


def _turned(spans):
    """The Spans of the integers with the other sign."""
    return Spans([(None if high is None else -high, None if low is None else -low) for low, high in spans])


def _shifted(end, number):
    return None if end is None else end + number
