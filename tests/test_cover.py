import inspect
import itertools
import unittest

from spanbook.cover import covering, how_many_hours, unions
from spanbook.errors import NoStretch
from tests.helper import (
    EDGES, HUGE, LONG, MANY, ORDINARY, SpanCase, bad_lists, choices, hours_of, many_spans, small_lists, small_spans,
    spread,
)

FEW_HOURS = ORDINARY + MANY + EDGES[:4] + EDGES[5:]
BAD_TIMES = [(0, 0), (3, 3), (4, 3), (0, -1), (-2, -2), (-2, -3), (HUGE, HUGE), (HUGE, HUGE - 1), (HUGE, -HUGE)]


def all_hours(spans):
    return set().union(*[hours_of(span) for span in spans])


def union_by_hours(spans):
    hours = all_hours(spans)
    starts = sorted(hour for hour in hours if hour - 1 not in hours)
    stops = sorted(hour + 1 for hour in hours if hour + 1 not in hours)
    return list(zip(starts, stops, strict=True))


class Unions(SpanCase):
    def check_union(self, spans, expected):
        told = self.ask(unions, spans)
        with self.subTest(spans=spans[:8]):
            self.assertEqual(told, expected)
            self.assertIs(type(told), list)
            self.assertTrue(all(type(span) is tuple for span in told))

    def test_ordinary(self):
        self.check_union([(0, 4), (2, 6)], [(0, 6)])
        self.check_union([(0, 2), (2, 4)], [(0, 4)])
        self.check_union([(0, 2), (3, 4)], [(0, 2), (3, 4)])
        self.check_union([(8, 9), (0, 9), (2, 3)], [(0, 9)])
        self.check_union([(2, 5), (2, 5), (2, 7), (1, 7)], [(1, 7)])
        self.check_union([(7, 8), (-4, -2), (0, 3), (-2, 0), (5, 6)], [(-4, 3), (5, 6), (7, 8)])
        self.check_union([(0, 9), (1, 2), (8, 10), (10, 12), (14, 15)], [(0, 12), (14, 15)])

    def test_edges(self):
        self.check_union([], [])
        self.check_union([(-1, 0)], [(-1, 0)])
        self.check_union([(-HUGE, HUGE)], [(-HUGE, HUGE)])
        self.check_union(LONG[0], [(-HUGE, HUGE + 1)])
        self.check_union(LONG[1], [(-HUGE - 1, HUGE * 9)])
        self.check_union([(HUGE + 1, HUGE + 2), (-HUGE, HUGE)], [(-HUGE, HUGE), (HUGE + 1, HUGE + 2)])
        self.check_union([(2 * hour, 2 * hour + 1) for hour in range(199, -1, -1)],
                         [(2 * hour, 2 * hour + 1) for hour in range(200)])

    def test_hour_by_hour(self):
        for spans in itertools.chain(small_lists(3), FEW_HOURS):
            self.check_union(spans, union_by_hours(spans))
            self.check_union(spread(spans), spread(union_by_hours(spans)))

    def test_refuses_what_is_no_stretch(self):
        for spans in bad_lists():
            self.refuse(NoStretch, unions, spans)


class HowManyHours(SpanCase):
    def test_ordinary(self):
        self.assertEqual(self.ask(how_many_hours, [(0, 4), (2, 6), (9, 10)]), 7)
        self.assertEqual(self.ask(how_many_hours, [(0, 3), (3, 5), (-2, 0)]), 7)
        self.assertEqual(self.ask(how_many_hours, [(0, 9), (2, 3), (2, 3), (0, 9)]), 9)

    def test_edges(self):
        self.assertEqual(self.ask(how_many_hours, []), 0)
        self.assertEqual(self.ask(how_many_hours, [(-1, 0)]), 1)
        self.assertEqual(self.ask(how_many_hours, [(0, 1)] * 200), 1)
        self.assertEqual(self.ask(how_many_hours, [(-HUGE, HUGE)]), 2 * HUGE)
        self.assertEqual(self.ask(how_many_hours, LONG[1]), 10 * HUGE + 1)

    def test_hour_by_hour(self):
        for spans in itertools.chain(small_lists(3), FEW_HOURS):
            count = len(all_hours(spans))
            with self.subTest(spans=spans[:8]):
                told = self.ask(how_many_hours, spans)
                self.assertIs(type(told), int)
                self.assertEqual(told, count)
                self.assertEqual(self.ask(how_many_hours, spread(spans)), count * (HUGE // 50))

    def test_refuses_what_is_no_stretch(self):
        for spans in bad_lists():
            self.refuse(NoStretch, how_many_hours, spans)


class Covering(SpanCase):
    def check_gap(self, spans, start, stop, hour):
        told = self.ask(covering, spans, start, stop)
        with self.subTest(spans=spans[:8], start=start, stop=stop):
            self.assertEqual(told, ("gap", hour))
            self.assertIs(type(told), tuple)
            self.assertIs(type(told[1]), int)

    def check_covered(self, spans, start, stop):
        told = self.ask(covering, spans, start, stop)
        with self.subTest(spans=spans[:8], start=start, stop=stop):
            self.assertIs(type(told), tuple)
            self.assertEqual(told[0], "covered")
            word, places, hours = told
            self.check_places(spans, places)
            # The stretches are taken from the left: each goes on where those ahead of it have ended, or before.
            reached = start
            for first, end in sorted(spans[place] for place in places):
                if first <= reached:
                    reached = max(reached, end)
            self.assertGreaterEqual(reached, stop)
            self.check_rising(hours)
            self.assertTrue(all(start <= hour < stop for hour in hours))
            for first, end in spans:
                self.assertLessEqual(sum(first <= hour < end for hour in hours), 1)
            self.assertEqual(len(places), len(hours))
        return places

    def check_by_hours(self, spans, start, stop):
        missing = hours_of((start, stop)) - all_hours(spans)
        if missing:
            self.check_gap(spans, start, stop, min(missing))
            return None
        return self.check_covered(spans, start, stop)

    def test_hour_by_hour(self):
        for spans in small_lists(3):
            for start, stop in small_spans(-3, 3):
                self.check_by_hours(spans, start, stop)

    def test_as_few_as_any_choice(self):
        for spans in itertools.chain(small_lists(3), ORDINARY):
            for start, stop in [(-2, 2), (0, 2), (2, 9), (0, 10)]:
                places = self.check_by_hours(spans, start, stop)
                if places is not None:
                    time = hours_of((start, stop))
                    fewest = min(len(choice) for choice in choices(spans)
                                 if time <= all_hours([spans[place] for place in choice]))
                    self.assertEqual(len(places), fewest)

    def test_many(self):
        for spans in FEW_HOURS:
            for start, stop in [(0, 1), (-50, 50), (-110, 130), (-3, 40), (0, 200), (-200, 200), (199, 399), (0, 400)]:
                self.check_by_hours(spans, start, stop)

    def test_many_with_long_hours(self):
        for spans in ORDINARY + MANY:
            for start, stop in union_by_hours(spans):
                time = spread([(start, stop)])[0]
                few = self.check_covered(spread(spans), time[0], time[1])
                self.assertEqual(len(few), len(self.check_covered(spans, start, stop)))
                self.check_gap(spread(spans), time[0], time[1] + 1, time[1])
                self.check_gap(spread(spans), time[0] - 1, time[1], time[0] - 1)

    def test_where_one_answer_alone_is_right(self):
        self.assertEqual(self.ask(covering, [(1, 2), (0, 1)], 0, 2), ("covered", [0, 1], [0, 1]))
        self.assertEqual(self.ask(covering, [(0, 1), (0, 9), (1, 9)], 0, 9)[1], [1])
        self.assertEqual(self.ask(covering, [(2, 9), (0, 4), (3, 6)], 0, 8)[1], [0, 1])

    def test_stretches_may_go_beyond_the_time(self):
        self.assertEqual(self.ask(covering, [(-9, 9)], -1, 0), ("covered", [0], [-1]))
        self.assertEqual(len(self.check_covered([(-9, 3), (2, 9), (3, 4)], 0, 4)), 2)

    def test_a_time_of_one_hour(self):
        self.assertEqual(self.ask(covering, [(0, 5)], 4, 5), ("covered", [0], [4]))
        self.check_gap([(0, 5)], 5, 6, 5)
        self.check_gap([(0, 5)], -1, 0, -1)

    def test_first_last_or_inner_hour_in_no_stretch(self):
        self.check_gap([(1, 5)], 0, 5, 0)
        self.check_gap([(0, 4)], 0, 5, 4)
        self.check_gap([(0, 2), (3, 5)], 0, 5, 2)
        self.check_gap([(0, 2), (3, 5), (6, 9)], 0, 20, 2)
        self.check_gap([(6, 9)], 0, 3, 0)
        self.check_gap([(-9, -6)], 0, 3, 0)

    def test_without_stretches(self):
        self.check_gap([], 0, 1, 0)
        self.check_gap([], -HUGE, HUGE, -HUGE)

    def test_two_hundred_all_needed(self):
        row = [(hour, hour + 1) for hour in range(199, -1, -1)]
        self.assertEqual(self.ask(covering, row, 0, 200), ("covered", list(range(200)), list(range(200))))
        self.check_gap(row, 0, 201, 200)

    def test_refuses_a_time_without_hours(self):
        for start, stop in BAD_TIMES:
            for spans in [[], [(-9, 9)], many_spans(200), LONG[0]]:
                self.refuse(NoStretch, covering, spans, start, stop)

    def test_refuses_what_is_no_stretch(self):
        for spans in bad_lists():
            for start, stop in [(0, 8), (0, 1), (20, 30)] + BAD_TIMES:
                self.refuse(NoStretch, covering, spans, start, stop)


class Interface(unittest.TestCase):
    def test_arguments(self):
        for function in [unions, how_many_hours]:
            self.assertEqual(list(inspect.signature(function).parameters), ["spans"])
        self.assertEqual(list(inspect.signature(covering).parameters), ["spans", "start", "stop"])


if __name__ == "__main__":
    unittest.main()
