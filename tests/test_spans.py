"""Promise 5, and of 2 and 3 what they say of spans."""

import itertools
import unittest

from helper import GREAT, GREATER, GREATEST, Other, check_refused, check_told, nested, odd_things
from newsways.errors import NoNumber, NoSpan
from newsways.spans import how_many_in, is_in, is_span, span_covers, span_met

ENDS = [None, -2, -1, 0, 1, 2]
SPANS = [(low, high) for low in ENDS for high in ENDS if low is None or high is None or low <= high]
# No end of the spans above lies beyond these, so a span without an end holds the outermost number.
NUMBERS = range(-4, 5)

NO_SPANS = odd_things() + [
    (), [], [1, 2], [None, None], (1,), (1, 2, 3), (None,), (None, None, None), (2, 1), (0, -1), (GREAT, -GREAT),
    (GREATER + 1, GREATER), (True, 1), (True, 2), (0, True), (False, None), (None, True), (False, False),
    ("1", 2), (1, "2"), ("", None), (None, ""), ((1,), 2), (1, [2]), ([1], [2]), ({}, None), (None, {}),
    ((1, 2), (3, 4)), ((1, 2),), "12", {1: 2}, (b"", b""), (Other(), 1), 0, 1, -1, GREAT, GREATEST, nested(20),
]
NO_NUMBERS = odd_things() + [(), [], (1, 2), (None, None), "0", "1", [0], (0,), {0: 0}, b"0", nested(20)]


def held(span):
    """By the document's words: the numbers that are not below low and not above high."""
    low, high = span
    return [n for n in NUMBERS if not (low is not None and n < low) and not (high is not None and n > high)]


class IsSpan(unittest.TestCase):
    def test_spans(self):
        for span in SPANS + [(-GREAT, GREAT), (GREAT, GREAT), (-GREATER, GREATER), (GREATEST, None)]:
            check_told(self, True, is_span, span)

    def test_edges(self):
        for span in [(None, None), (None, 0), (0, None), (0, 0), (-5, -5), (-1, 0)]:
            check_told(self, True, is_span, span)

    def test_anything_else(self):
        for thing in NO_SPANS:
            check_told(self, False, is_span, thing)


class IsIn(unittest.TestCase):
    def test_each_number(self):
        for span in SPANS:
            for number in NUMBERS:
                check_told(self, number in held(span), is_in, span, number)

    def test_both_ends_are_in(self):
        self.assertEqual([n for n in range(0, 9) if is_in((3, 5), n)], [3, 4, 5])
        self.assertEqual([n for n in range(0, 9) if is_in((4, 4), n)], [4])

    def test_great_numbers(self):
        check_told(self, True, is_in, (-GREAT, GREAT), GREAT)
        check_told(self, True, is_in, (-GREAT, GREAT), -GREAT)
        check_told(self, False, is_in, (-GREAT, GREAT), GREAT + 1)
        check_told(self, False, is_in, (-GREAT, GREAT), -GREAT - 1)
        check_told(self, True, is_in, (GREATER, None), GREATER)
        check_told(self, False, is_in, (GREATER + 1, None), GREATER)
        check_told(self, True, is_in, (None, None), -GREATER)

    def test_what_is_no_span(self):
        for thing in NO_SPANS:
            check_refused(self, NoSpan, is_in, thing, 1)

    def test_what_is_no_number(self):
        for thing in NO_NUMBERS:
            check_refused(self, NoNumber, is_in, (1, 2), thing)
            check_refused(self, NoNumber, is_in, (None, None), thing)

    def test_no_span_goes_ahead_of_no_number(self):
        for thing, other in itertools.product(NO_SPANS[:30], NO_NUMBERS[:30]):
            check_refused(self, NoSpan, is_in, thing, other)


class SpanCovers(unittest.TestCase):
    def test_each_two(self):
        for one in SPANS:
            for other in SPANS:
                due = all(n in held(one) for n in held(other))
                check_told(self, due, span_covers, one, other)

    def test_great_numbers(self):
        check_told(self, True, span_covers, (-GREAT, GREAT), (-GREAT, GREAT))
        check_told(self, False, span_covers, (-GREAT, GREAT), (-GREAT, GREAT + 1))
        check_told(self, False, span_covers, (-GREATER, GREATER), (None, 0))
        check_told(self, False, span_covers, (-GREATER, GREATER), (0, None))
        check_told(self, True, span_covers, (None, GREATER), (-GREATER, GREATER))

    def test_what_is_no_span(self):
        for thing in NO_SPANS:
            check_refused(self, NoSpan, span_covers, thing, (1, 2))
            check_refused(self, NoSpan, span_covers, (None, None), thing)
            check_refused(self, NoSpan, span_covers, thing, thing)


class SpanMet(unittest.TestCase):
    def test_each_two(self):
        for one in SPANS:
            for other in SPANS:
                both = [n for n in held(one) if n in held(other)]
                met = span_met(one, other)
                if not both:
                    self.assertIsNone(met)
                    continue
                self.assertTrue(is_span(met))
                self.assertEqual(held(met), both)
                check_told(self, met, span_met, one, other)

    def test_told_as_written(self):
        check_told(self, (2, 3), span_met, (1, 3), (2, 5))
        check_told(self, (3, 3), span_met, (1, 3), (3, 5))
        check_told(self, None, span_met, (1, 3), (4, 5))
        check_told(self, (4, None), span_met, (None, None), (4, None))
        check_told(self, (None, None), span_met, (None, None), (None, None))
        check_told(self, (0, 0), span_met, (0, None), (None, 0))
        check_told(self, None, span_met, (1, None), (None, 0))

    def test_great_numbers(self):
        check_told(self, (GREAT, GREAT), span_met, (None, GREAT), (GREAT, None))
        check_told(self, None, span_met, (None, GREATER), (GREATER + 1, None))

    def test_what_is_no_span(self):
        for thing in NO_SPANS:
            check_refused(self, NoSpan, span_met, thing, (1, 2))
            check_refused(self, NoSpan, span_met, (None, None), thing)


class HowManyIn(unittest.TestCase):
    def test_each(self):
        for span in SPANS:
            due = None if None in span else len(held(span))
            check_told(self, due, how_many_in, span)

    def test_what_is_told_may_be_handed_in(self):
        many = how_many_in((-GREAT, GREAT))
        self.assertEqual(many, 2 * 10 ** 15 - 1)
        check_told(self, 2 * many + 1, how_many_in, (-many, many))
        check_told(self, True, is_in, (many, None), many)
        check_told(self, 1, how_many_in, (GREATEST, GREATEST))

    def test_what_is_no_span(self):
        for thing in NO_SPANS:
            check_refused(self, NoSpan, how_many_in, thing)


if __name__ == "__main__":
    unittest.main()
