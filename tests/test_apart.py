import inspect
import itertools
import unittest

from spanbook.apart import heaviest, most_apart
from spanbook.errors import NoStretch, NoWeights
from tests.helper import (
    EDGES, HUGE, LONG, MANY, ORDINARY, SpanCase, bad_lists, choices, many_spans, meeting, small_lists, spread,
)

# Few enough to go through all choices, and enough that several go with one another.
TENS = [
    many_spans(10, longest=60),
    many_spans(10, longest=120),
    many_spans(20)[10:],
    many_spans(40, longest=90)[30:],
    [(0, 5), (4, 9), (8, 12), (11, 15), (1, 14), (5, 8), (9, 11), (0, 1), (14, 15), (0, 15)],
    [(0, 5), (3, 5), (4, 5), (1, 5), (5, 9), (2, 9), (8, 9), (4, 9), (9, 10), (0, 10)],
]


def apart(spans, places):
    return not any(meeting(spans[one], spans[other]) for one, other in itertools.combinations(places, 2))


def choices_apart(spans):
    return [places for places in choices(spans) if apart(spans, places)]


def some_weights(count, greatest):
    return [start * 7919 % (greatest + 1) for start, stop in many_spans(count)]


def large_lists():
    for spans in ORDINARY + TENS + EDGES + MANY + LONG:
        yield spans
    for spans in ORDINARY + TENS + MANY:
        yield spread(spans)


class ApartCase(SpanCase):
    def check_pair(self, told, spans):
        self.assertIs(type(told), tuple)
        self.assertEqual(len(told), 2)
        self.check_places(spans, told[0])
        self.assertTrue(apart(spans, told[0]))
        self.assertIs(type(told[1]), list)


class MostApart(ApartCase):
    def check_pinned(self, spans):
        told = self.ask(most_apart, spans)
        with self.subTest(spans=spans[:8]):
            self.check_pair(told, spans)
            places, hours = told
            self.check_rising(hours)
            for start, stop in spans:
                self.assertTrue(any(start <= hour < stop for hour in hours))
            self.assertEqual(len(places), len(hours))
        return told

    def test_as_many_as_hours_that_pin_all(self):
        for spans in itertools.chain(small_lists(3), large_lists()):
            self.check_pinned(spans)

    def test_as_many_as_any_choice(self):
        for spans in itertools.chain(small_lists(3), ORDINARY, TENS):
            places, hours = self.check_pinned(spans)
            most = max(len(choice) for choice in choices_apart(spans))
            self.assertEqual((len(places), len(hours)), (most, most))

    def test_where_one_answer_alone_is_right(self):
        self.assertEqual(self.ask(most_apart, []), ([], []))
        self.assertEqual(self.ask(most_apart, [(-1, 0)]), ([0], [-1]))
        self.assertEqual(self.ask(most_apart, [(1, 2), (0, 1), (0, 2)]), ([0, 1], [0, 1]))
        self.assertEqual(self.ask(most_apart, [(HUGE, HUGE + 1), (-HUGE, HUGE + 1)])[1], [HUGE])
        self.assertEqual(self.ask(most_apart, [(5, 9), (0, 6), (-3, 1)])[0], [0, 2])

    def test_how_many_of_two_hundred(self):
        for spans, most in [([(0, 1)] * 200, 1), ([(hour, hour + 1) for hour in range(200)], 200),
                            ([(hour, hour + 2) for hour in range(200)], 100),
                            ([(-hour, hour) for hour in range(1, 201)], 1)]:
            self.assertEqual(len(self.check_pinned(spans)[0]), most)
            self.assertEqual(len(self.check_pinned(spans[::-1])[0]), most)

    def test_refuses_what_is_no_stretch(self):
        for spans in bad_lists():
            self.refuse(NoStretch, most_apart, spans)


class Heaviest(ApartCase):
    def check_priced(self, spans, weights):
        told = self.ask(heaviest, spans, weights)
        with self.subTest(spans=spans[:8], weights=weights[:8]):
            self.check_pair(told, spans)
            places, prices = told
            self.assertTrue(all(type(pair) is tuple and len(pair) == 2 for pair in prices))
            self.check_rising([hour for hour, price in prices])
            self.assertTrue(all(type(price) is int and price >= 1 for hour, price in prices))
            for (start, stop), weight in zip(spans, weights, strict=True):
                self.assertGreaterEqual(sum(price for hour, price in prices if start <= hour < stop), weight)
            together = sum(weights[place] for place in places)
            self.assertEqual(sum(price for hour, price in prices), together)
        return together

    def check_against_all(self, spans, apart_ones, weights):
        most = max(sum(weights[place] for place in choice) for choice in apart_ones)
        self.assertEqual(self.check_priced(spans, weights), most)

    def test_as_heavy_as_any_choice_of_small_ones(self):
        for spans in small_lists(3):
            apart_ones = choices_apart(spans)
            for weights in itertools.product(range(3), repeat=len(spans)):
                self.check_against_all(spans, apart_ones, list(weights))

    def test_as_heavy_as_any_choice(self):
        for spans in ORDINARY + TENS:
            apart_ones = choices_apart(spans)
            for greatest in [0, 1, 2, 5, 20, 1000, HUGE]:
                weights = some_weights(len(spans), greatest)
                self.check_against_all(spans, apart_ones, weights)
                self.check_against_all(spans, apart_ones, weights[::-1])

    def test_as_heavy_as_the_prices_come_to(self):
        for spans in large_lists():
            for greatest in [0, 1, 9, 1000, HUGE * 10 - 1]:
                self.check_priced(spans, some_weights(len(spans), greatest))

    def test_weights_and_hours_of_a_hundred_figures(self):
        most = HUGE * 10 - 1
        self.assertEqual(self.check_priced([(-most, most), (-most, 0), (0, most)], [most, most // 2, most // 2]), most)
        self.assertEqual(self.check_priced([(-most, most), (-most, 0), (0, most)], [most, most, 1]), most + 1)
        self.assertEqual(self.check_priced(spread([(hour, hour + 1) for hour in range(200)]), [most] * 200), 200 * most)

    def test_weights_of_nought(self):
        self.assertEqual(self.ask(heaviest, [(0, 4), (2, 6)], [0, 0])[1], [])
        self.assertEqual(self.ask(heaviest, [(0, 4)] * 200, [0] * 200)[1], [])
        self.assertEqual(self.check_priced([(0, 4), (2, 6), (5, 9)], [0, 3, 0]), 3)
        self.assertEqual(self.check_priced([(0, 4), (2, 6), (5, 9)], [2, 3, 0]), 3)

    def test_where_one_answer_alone_is_right(self):
        self.assertEqual(self.ask(heaviest, [], []), ([], []))
        self.assertEqual(self.ask(heaviest, [(-1, 0)], [5]), ([0], [(-1, 5)]))
        self.assertEqual(self.ask(heaviest, [(1, 2), (0, 1)], [3, HUGE]), ([0, 1], [(0, HUGE), (1, 3)]))
        self.assertEqual(self.ask(heaviest, [(0, 1), (0, 1), (0, 1)], [4, 9, 7]), ([1], [(0, 9)]))
        self.assertEqual(self.ask(heaviest, [(0, 1), (0, 2), (1, 2)], [2, 6, 3])[0], [1])
        self.assertEqual(self.ask(heaviest, [(0, 1), (0, 2), (1, 2)], [2, 4, 3])[0], [0, 2])

    def test_refuses_what_is_no_stretch(self):
        for spans in bad_lists():
            self.refuse(NoStretch, heaviest, spans, [1] * len(spans))


class WrongWeights(SpanCase):
    def faults(self, count):
        good = list(range(1, count + 1))
        yield good[:-1]
        yield good[1:]
        yield good + [1]
        yield good + [0]
        yield []
        for place in range(count):
            for below in [-1, -HUGE]:
                yield good[:place] + [below] + good[place + 1:]
        yield good[:-1] + [1, -1]
        yield good[:-2] + [-1]

    def test_one_gone_one_too_many_one_below_nought(self):
        for count in [1, 2, 3, 200]:
            for weights in self.faults(count):
                self.refuse(NoWeights, heaviest, many_spans(count), weights)

    def test_without_stretches(self):
        for weights in [[0], [1], [-1], [0, 0]]:
            self.refuse(NoWeights, heaviest, [], weights)

    def test_no_stretch_goes_first(self):
        for spans in bad_lists():
            for weights in self.faults(len(spans)):
                self.refuse(NoStretch, heaviest, spans, weights)


class Interface(unittest.TestCase):
    def test_arguments(self):
        self.assertEqual(list(inspect.signature(most_apart).parameters), ["spans"])
        self.assertEqual(list(inspect.signature(heaviest).parameters), ["spans", "weights"])


if __name__ == "__main__":
    unittest.main()
