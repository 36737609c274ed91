"""Spans: stretches of whole numbers, with or without an end on each side."""

from newsways.errors import NoNumber, NoSpan


def is_whole(thing):
    # Python counts True and False as integers; the document does not.
    return isinstance(thing, int) and not isinstance(thing, bool)


def is_end(thing):
    return thing is None or is_whole(thing)


def is_span(thing):
    if not isinstance(thing, tuple) or len(thing) != 2:
        return False
    low, high = thing
    if not is_end(low) or not is_end(high):
        return False
    return low is None or high is None or low <= high


def check_span(thing):
    # The message does not show the thing: Python refuses to write out very great numbers.
    if not is_span(thing):
        raise NoSpan("a span is a tuple (low, high) of whole numbers or None, low at most high")


def check_number(thing):
    if not is_whole(thing):
        raise NoNumber("a whole number is due")


def is_in(span, number):
    check_span(span)
    check_number(number)
    return span_holds(span, number)


def span_covers(one, other):
    check_span(one)
    check_span(other)
    return span_reaches(one, other)


def span_met(one, other):
    check_span(one)
    check_span(other)
    return span_shared(one, other)


def how_many_in(span):
    check_span(span)
    low, high = span
    if low is None or high is None:
        return None
    return high - low + 1


# From here on the spans are known to be spans: wishes check theirs once, as a whole.


def span_holds(span, number):
    low, high = span
    return (low is None or low <= number) and (high is None or number <= high)


def span_reaches(one, other):
    """Whether each number in the other is in the one."""
    low, high = one
    other_low, other_high = other
    reaches_down = low is None or (other_low is not None and low <= other_low)
    reaches_up = high is None or (other_high is not None and other_high <= high)
    return reaches_down and reaches_up


def span_shared(one, other):
    """The span of the numbers in both, or None."""
    low = max([end for end in (one[0], other[0]) if end is not None], default=None)
    high = min([end for end in (one[1], other[1]) if end is not None], default=None)
    if low is not None and high is not None and low > high:
        return None
    return (low, high)


def number_of(span):
    """Some number in the span."""
    low, high = span
    if low is not None:
        return low
    if high is not None:
        return high
    return 0


def number_apart(one, other):
    """A number in the one and not in the other, or None."""
    low, high = other
    if low is not None:
        below = span_shared(one, (None, low - 1))
        if below is not None:
            return number_of(below)
    if high is not None:
        above = span_shared(one, (high + 1, None))
        if above is not None:
            return number_of(above)
    return None
