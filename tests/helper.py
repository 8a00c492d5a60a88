"""What the tests share: stretches to ask with, and calls that watch over what is handed in."""

import copy
import itertools
import unittest

from spanbook.errors import SpanError

HUGE = 10 ** 99


def hours_of(span):
    return set(range(span[0], span[1]))


def small_spans(least=-2, greatest=2):
    return list(itertools.combinations(range(least, greatest + 1), 2))


def small_lists(longest):
    for length in range(longest + 1):
        for spans in itertools.product(small_spans(), repeat=length):
            yield list(spans)


def many_spans(count, longest=40):
    # The same numbers each time, but without a pattern that the program could lean on.
    state = 12345
    spans = []
    for turn in range(count):
        state = (state * 1103515245 + 12345) % 2 ** 31
        start = state // 1000 % 201 - 100
        state = (state * 1103515245 + 12345) % 2 ** 31
        spans.append((start, start + 1 + state // 1000 % longest))
    return spans


def spread(spans):
    # Rises with the hour, so the stretches meet as before, with hours of up to a hundred figures.
    return [(start * (HUGE // 50) - 7, stop * (HUGE // 50) - 7) for start, stop in spans]


def meeting(one, other):
    return max(one[0], other[0]) < min(one[1], other[1])


def choices(spans):
    for size in range(len(spans) + 1):
        for places in itertools.combinations(range(len(spans)), size):
            yield list(places)


def bad_lists():
    good = [(0, 5), (3, 8)]
    for bad in [(4, 4), (4, 3), (0, 0), (-3, -3), (-3, -4), (1, -1), (HUGE, HUGE), (HUGE, HUGE - 1), (HUGE, -HUGE)]:
        yield [bad]
        yield [bad] + good
        yield good + [bad]
        yield good[:1] + [bad] + good[1:]


ORDINARY = [
    [(0, 4), (2, 6), (5, 9), (3, 7)],
    [(0, 3), (3, 5), (5, 6)],
    [(0, 10), (2, 8), (3, 5), (6, 7)],
    [(2, 9), (2, 9), (2, 9)],
    [(0, 5), (2, 5), (4, 5), (5, 6)],
    [(0, 5), (0, 2), (0, 1), (-1, 0)],
    [(0, 1), (5, 6), (-9, -8)],
    [(0, 100), (90, 95), (3, 4), (94, 99), (3, 91)],
]
EDGES = [[], [(0, 1)], [(-1, 0)], [(-7, -3)], [(-HUGE, HUGE)], [(0, 1), (1, 2)], [(-1, 0), (0, 1), (-1, 1)]]
MANY = [
    many_spans(200),
    many_spans(200, longest=3),
    many_spans(230),
    [(0, 1)] * 200,
    [(hour, hour + 1) for hour in range(200)],
    [(-hour, hour) for hour in range(1, 201)],
    [(hour, hour + 200) for hour in range(200)],
]
LONG = [
    [(HUGE, HUGE + 1), (HUGE - 1, HUGE), (-HUGE, HUGE + 1)],
    [(-HUGE, HUGE), (-HUGE - 1, -HUGE), (0, HUGE * 9), (HUGE - 1, HUGE)],
]


class SpanCase(unittest.TestCase):
    def ask(self, function, *handed):
        before = copy.deepcopy(handed)
        try:
            return function(*handed)
        finally:
            self.assertEqual(handed, before, "what was handed in is changed")

    def refuse(self, error, function, *handed):
        with self.assertRaises(ValueError) as caught:
            self.ask(function, *handed)
        self.assertIs(type(caught.exception), error)
        self.assertIsInstance(caught.exception, SpanError)

    def check_rising(self, numbers):
        self.assertIs(type(numbers), list)
        self.assertTrue(all(type(number) is int for number in numbers))
        self.assertTrue(all(one < other for one, other in zip(numbers, numbers[1:])))

    def check_places(self, spans, places):
        self.check_rising(places)
        self.assertTrue(all(0 <= place < len(spans) for place in places))
