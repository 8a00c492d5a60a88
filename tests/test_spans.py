import itertools
import unittest

from spanbook.errors import NoStretch
from spanbook.spans import check_spans, has_hour, how_long, lies_in, meet, places_at
from tests.helper import HUGE, SpanCase, bad_lists, hours_of, many_spans, small_spans, spread


class Refused(SpanCase):
    def test_a_stop_that_is_not_greater_than_the_start(self):
        for spans in bad_lists():
            with self.subTest(spans=spans):
                self.refuse(NoStretch, check_spans, spans)

    def test_a_bad_stretch_at_any_place_of_two_hundred(self):
        for place in [0, 1, 100, 199]:
            spans = many_spans(200)
            spans[place] = (7, 7)
            with self.subTest(place=place):
                self.refuse(NoStretch, check_spans, spans)

    def test_good_stretches_are_not(self):
        for spans in [[], [(0, 1)], [(-1, 0)], [(2, 9), (2, 9)], [(-HUGE, -HUGE + 1)], [(-HUGE * 9, HUGE * 9)],
                      many_spans(200), spread(many_spans(200)), many_spans(230)]:
            with self.subTest(spans=spans):
                self.assertIsNone(self.ask(check_spans, spans))


class Hours(unittest.TestCase):
    def test_from_the_start_on_and_less_than_the_stop(self):
        for span in small_spans():
            for hour in range(-4, 5):
                with self.subTest(span=span, hour=hour):
                    self.assertIs(has_hour(span, hour), hour in hours_of(span))

    def test_how_many(self):
        for span in small_spans():
            self.assertEqual(how_long(span), len(hours_of(span)))
        self.assertEqual(how_long((-HUGE, HUGE)), 2 * HUGE)

    def test_places_of_all_that_have_an_hour(self):
        spans = [(0, 4), (4, 9), (2, 5), (0, 4), (-3, 1)]
        for hour in range(-4, 10):
            expected = [place for place in range(len(spans)) if hour in hours_of(spans[place])]
            self.assertEqual(places_at(spans, hour), expected)
        self.assertEqual(places_at([], 0), [])

    def test_of_a_hundred_figures(self):
        span = (-HUGE, HUGE)
        told = [has_hour(span, hour) for hour in [-HUGE - 1, -HUGE, 0, HUGE - 1, HUGE]]
        self.assertEqual(told, [False, True, True, True, False])


class Pairs(unittest.TestCase):
    def test_meet_where_an_hour_is_in_both(self):
        for one, other in itertools.product(small_spans(-3, 3), repeat=2):
            with self.subTest(one=one, other=other):
                self.assertIs(meet(one, other), bool(hours_of(one) & hours_of(other)))

    def test_lies_in_where_all_hours_are_in_the_other(self):
        for one, other in itertools.product(small_spans(-3, 3), repeat=2):
            with self.subTest(one=one, other=other):
                self.assertIs(lies_in(one, other), hours_of(one) <= hours_of(other))

    def test_touching_is_not_meeting(self):
        self.assertFalse(meet((0, 3), (3, 5)))
        self.assertFalse(meet((3, 5), (0, 3)))
        self.assertTrue(meet((0, 4), (3, 5)))

    def test_the_same_meet_and_lie_in_one_another(self):
        self.assertTrue(meet((-1, 0), (-1, 0)))
        self.assertTrue(lies_in((-1, 0), (-1, 0)))

    def test_hours_of_a_hundred_figures(self):
        self.assertFalse(meet((-HUGE, HUGE), (HUGE, HUGE + 1)))
        self.assertTrue(meet((-HUGE, HUGE + 1), (HUGE, HUGE + 1)))
        self.assertTrue(lies_in((HUGE, HUGE + 1), (-HUGE, HUGE + 1)))
        self.assertFalse(lies_in((HUGE, HUGE + 2), (-HUGE, HUGE + 1)))
        self.assertFalse(lies_in((-HUGE - 1, HUGE), (-HUGE, HUGE)))


if __name__ == "__main__":
    unittest.main()
