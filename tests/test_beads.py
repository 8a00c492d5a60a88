import collections
import inspect
import itertools
import unittest

from spanbook.beads import beads, colours_by, crowd, last_first
from spanbook.errors import NoOrder, NoStretch
from tests.helper import (
    EDGES, HUGE, LONG, MANY, ORDINARY, SpanCase, bad_lists, hours_of, many_spans, meeting, small_lists, spread,
)


def most_at_an_hour(spans):
    counts = collections.Counter()
    for span in spans:
        counts.update(hours_of(span))
    return max(counts.values(), default=0)


def told_with_size():
    # Each list goes with how many stretches its fullest crowd has, counted hour by hour where hours are few.
    for spans in itertools.chain(small_lists(3), ORDINARY, EDGES[:4] + EDGES[5:], MANY):
        yield spans, most_at_an_hour(spans)
    for spans in ORDINARY + MANY:
        yield spread(spans), most_at_an_hour(spans)
    yield EDGES[4], 1
    yield LONG[0], 2
    yield LONG[1], 3


def having(spans, hour):
    return [place for place, (start, stop) in enumerate(spans) if start <= hour < stop]


class Crowd(SpanCase):
    def test_has_as_many_as_any(self):
        for spans, size in told_with_size():
            if spans:
                told = self.ask(crowd, spans)
                with self.subTest(spans=spans[:8]):
                    self.assertIs(type(told), tuple)
                    hour, places = told
                    self.assertIs(type(hour), int)
                    self.assertIs(type(places), list)
                    self.assertEqual(places, having(spans, hour))
                    self.assertEqual(len(places), size)

    def test_none_without_stretches(self):
        self.assertIsNone(self.ask(crowd, []))

    def test_refuses_what_is_no_stretch(self):
        for spans in bad_lists():
            self.refuse(NoStretch, crowd, spans)


class Beads(SpanCase):
    def test_good_and_no_more_than_a_crowd(self):
        for spans, size in told_with_size():
            colours = self.ask(beads, spans)
            with self.subTest(spans=spans[:8]):
                self.assertIs(type(colours), list)
                self.assertEqual(len(colours), len(spans))
                self.assertTrue(all(type(colour) is int and 0 <= colour < size for colour in colours))
                for one, other in itertools.combinations(range(len(spans)), 2):
                    if meeting(spans[one], spans[other]):
                        self.assertNotEqual(colours[one], colours[other])

    def test_none_without_stretches(self):
        self.assertEqual(self.ask(beads, []), [])

    def test_refuses_what_is_no_stretch(self):
        for spans in bad_lists():
            self.refuse(NoStretch, beads, spans)


class ColoursBy(SpanCase):
    def test_as_the_order_goes(self):
        # A chain of four: by its ends first, then from within, it takes a third colour.
        spans = [(0, 2), (1, 4), (3, 6), (5, 7)]
        self.assertEqual(self.ask(colours_by, spans, [0, 1, 2, 3]), [0, 1, 0, 1])
        self.assertEqual(self.ask(colours_by, spans, [0, 3, 1, 2]), [0, 1, 2, 0])
        self.assertEqual(self.ask(colours_by, spans, [3, 0, 2, 1]), [0, 2, 1, 0])
        self.assertEqual(self.ask(colours_by, spans, [1, 2, 3, 0]), [1, 0, 1, 0])

    def test_takes_the_least_that_is_free(self):
        spans = [(0, 9), (0, 3), (4, 9), (2, 5), (9, 10)]
        self.assertEqual(self.ask(colours_by, spans, [0, 1, 2, 3, 4]), [0, 1, 1, 2, 0])
        self.assertEqual(self.ask(colours_by, spans, [3, 0, 1, 4, 2]), [1, 2, 2, 0, 0])
        more = [(0, 2), (0, 5), (0, 6), (5, 9), (2, 9)]
        self.assertEqual(self.ask(colours_by, more, [0, 1, 2, 3, 4]), [0, 1, 2, 0, 3])
        # The last one meets those of nought and two alone, so what lies between is free.
        self.assertEqual(self.ask(colours_by, [(0, 9), (0, 4), (0, 9), (5, 9)], [0, 1, 2, 3]), [0, 1, 2, 1])

    def test_same_touching_and_nested(self):
        self.assertEqual(self.ask(colours_by, [(1, 2)] * 3, [2, 0, 1]), [1, 2, 0])
        self.assertEqual(self.ask(colours_by, [(0, 3), (3, 5), (-4, 0)], [1, 0, 2]), [0, 0, 0])
        self.assertEqual(self.ask(colours_by, [(-5, 5), (-1, 0), (-3, 3)], [1, 0, 2]), [1, 0, 2])

    def test_edges(self):
        self.assertEqual(self.ask(colours_by, [], []), [])
        self.assertEqual(self.ask(colours_by, [(-1, 0)], [0]), [0])
        self.assertEqual(self.ask(colours_by, LONG[0], [2, 1, 0]), [1, 1, 0])
        self.assertEqual(self.ask(colours_by, LONG[0], [0, 1, 2]), [0, 0, 1])

    def test_two_hundred(self):
        backwards = list(range(199, -1, -1))
        self.assertEqual(self.ask(colours_by, [(0, 1)] * 200, backwards), backwards)
        row = [(hour, hour + 2) for hour in range(200)]
        self.assertEqual(self.ask(colours_by, row, backwards), [1, 0] * 100)

    def test_every_order_of_small_lists(self):
        for spans in small_lists(3):
            for order in itertools.permutations(range(len(spans))):
                self.check_by_the_words(spans, list(order))

    def test_orders_of_many(self):
        for spans in MANY:
            count = len(spans)
            for order in [list(range(count)), list(range(0, count, 2)) + list(range(1, count, 2))]:
                self.check_by_the_words(spans, order)
                self.check_by_the_words(spread(spans), order)

    def check_by_the_words(self, spans, order):
        expected = {}
        for place in order:
            taken = {expected[other] for other in expected if meeting(spans[place], spans[other])}
            expected[place] = min(set(range(len(spans))) - taken)
        colours = self.ask(colours_by, spans, order)
        self.assertIs(type(colours), list)
        self.assertEqual(colours, [expected[place] for place in range(len(spans))])


class NoOrders(SpanCase):
    def test_every_list_that_is_no_order(self):
        spans = [(0, 4), (2, 6), (8, 9)]
        for length in range(5):
            for places in itertools.product(range(-3, 4), repeat=length):
                if sorted(places) != [0, 1, 2]:
                    self.refuse(NoOrder, colours_by, spans, list(places))

    def test_each_fault_by_itself(self):
        spans = [(0, 4), (2, 6), (8, 9)]
        faults = {
            "a place twice": [0, 1, 1],
            "a place twice, none gone": [0, 1, 2, 1],
            "one gone": [0, 2],
            "all gone": [],
            "one too many": [0, 1, 2, 3],
            "below nought": [-1, 0, 1],
            "below nought, meant from the end": [0, 1, -1],
            "beyond the last": [0, 1, 3],
            "far beyond": [0, 1, HUGE],
        }
        for fault, order in faults.items():
            with self.subTest(fault):
                self.refuse(NoOrder, colours_by, spans, order)

    def test_without_stretches_and_with_one(self):
        for order in [[0], [-1], [0, 0]]:
            self.refuse(NoOrder, colours_by, [], order)
        for order in [[], [1], [-1], [0, 0], [0, 1]]:
            self.refuse(NoOrder, colours_by, [(0, 1)], order)

    def test_two_hundred(self):
        spans = many_spans(200)
        for order in [list(range(199)), list(range(201)), list(range(1, 201)), [0] + list(range(199))]:
            self.refuse(NoOrder, colours_by, spans, order)

    def test_no_stretch_goes_first(self):
        for spans in bad_lists():
            self.refuse(NoStretch, colours_by, spans, list(range(len(spans))))
            for order in [[], [-1], [0, 0], list(range(len(spans) + 1)), [HUGE] * len(spans)]:
                self.refuse(NoStretch, colours_by, spans, order)


class LastFirst(SpanCase):
    def test_what_stands_behind_and_meets_meets_one_another(self):
        for spans, size in told_with_size():
            order = self.ask(last_first, spans)
            with self.subTest(spans=spans[:8]):
                self.assertIs(type(order), list)
                self.assertEqual(sorted(order), list(range(len(spans))))
                self.assertTrue(self.is_last_first(spans, order))

    def is_last_first(self, spans, order):
        for turn, place in enumerate(order):
            behind = [spans[other] for other in order[turn + 1:] if meeting(spans[place], spans[other])]
            # Stretches all meet one another just where the latest start is less than the earliest stop.
            if behind and max(start for start, stop in behind) >= min(stop for start, stop in behind):
                return False
        return True

    def test_the_check_tells_another_order(self):
        self.assertFalse(self.is_last_first([(0, 9), (0, 1), (5, 6)], [0, 1, 2]))
        self.assertTrue(self.is_last_first([(0, 9), (0, 1), (5, 6)], [1, 0, 2]))

    def test_none_and_one(self):
        self.assertEqual(self.ask(last_first, []), [])
        self.assertEqual(self.ask(last_first, [(-1, 0)]), [0])

    def test_an_order_that_colours_may_be_given_in(self):
        for spans in ORDINARY + EDGES + LONG:
            self.ask(colours_by, spans, self.ask(last_first, spans))

    def test_refuses_what_is_no_stretch(self):
        for spans in bad_lists():
            self.refuse(NoStretch, last_first, spans)


class Interface(unittest.TestCase):
    def test_arguments(self):
        for function in [crowd, beads, last_first]:
            self.assertEqual(list(inspect.signature(function).parameters), ["spans"])
        self.assertEqual(list(inspect.signature(colours_by).parameters), ["spans", "order"])


if __name__ == "__main__":
    unittest.main()
