import inspect
import itertools
import unittest

from spanbook.errors import NoStretch
from spanbook.nested import nested, text_of
from tests.helper import (
    HUGE, LONG, MANY, ORDINARY, SpanCase, bad_lists, hours_of, many_spans, small_lists, small_spans, spread,
)

# Stretches of which no two cross, their parents and their brackets.
TREES = [
    ([(0, 10), (2, 8), (3, 5), (6, 7)], [None, 0, 1, 1], "((()()))"),
    ([(6, 7), (3, 5), (2, 8), (0, 10)], [2, 2, 3, None], "((()()))"),
    ([(0, 3), (3, 5), (5, 6)], [None, None, None], "()()()"),
    ([(5, 6), (0, 3), (1, 2)], [None, None, 1], "(())()"),
    ([(0, 5), (0, 2), (0, 1), (-1, 0)], [None, 0, 1, None], "()((()))"),
    ([(4, 5), (0, 5), (2, 5), (5, 6)], [2, None, 1, None], "((()))()"),
    ([(0, 4), (0, 2), (2, 4), (-3, -1)], [None, 0, 0, None], "()(()())"),
    ([(2, 9), (2, 9), (2, 9)], [None, 0, 1], "((()))"),
    ([(3, 4), (2, 9), (3, 4), (2, 9), (0, 9)], [3, 4, 0, 1, None], "((((()))))"),
    ([(0, 9), (1, 2), (0, 9), (5, 7), (1, 2), (5, 6)], [None, 2, 0, 2, 1, 3], "(((())(())))"),
    ([(-9, -5), (-7, -6), (-5, -1), (-9, -1)], [3, 0, 3, None], "((())())"),
    ([(0, 1), (1, 2), (2, 3), (0, 3), (1, 3)], [3, 4, 4, None, 3], "(()(()()))"),
    ([], [], ""),
    ([(0, 1)], [None], "()"),
    ([(-1, 0)], [None], "()"),
]


def crossing_by_hours(one, other):
    shared = hours_of(one) & hours_of(other)
    return bool(shared) and shared != hours_of(one) and shared != hours_of(other)


def any_crossing_by_hours(spans):
    return any(crossing_by_hours(one, other) for one, other in itertools.combinations(spans, 2))


def parents_by_hours(spans):
    parents = []
    hours = [hours_of(span) for span in spans]
    for place in range(len(spans)):
        around = [other for other in range(len(spans)) if hours[place] < hours[other]]
        same = [other for other in range(place) if hours[place] == hours[other]]
        fewest = min((len(hours[other]) for other in around + same), default=None)
        parents.append(max((other for other in around + same if len(hours[other]) == fewest), default=None))
    return parents


def text_by_parents(spans, parents, of=None):
    below = [place for place in range(len(spans)) if parents[place] == of]
    inner = [text_by_parents(spans, parents, place) for place in sorted(below, key=lambda place: spans[place][0])]
    return "".join("(" + text + ")" for text in inner)


def halves(count):
    # Halves, quarters and so on of one stretch: two of them never cross, many have an end in common or are the same.
    spans = []
    for start, stop in many_spans(count):
        long = 2 ** ((stop - start) % 7)
        spans.append((start // long * long, start // long * long + long))
    return spans


def trees_by_hours():
    for spans in itertools.chain(small_lists(3), itertools.product(small_spans(0, 3), repeat=4)):
        if not any_crossing_by_hours(spans):
            yield list(spans)
    for spans in [halves(20), halves(80)[20:], halves(200), halves(230), halves(200)[::-1]]:
        yield spans


class Trees(SpanCase):
    def check_tree(self, spans, parents):
        told = self.ask(nested, spans)
        with self.subTest(spans=spans[:8]):
            self.assertEqual(told, ("tree", parents))
            self.assertIs(type(told), tuple)
            self.assertIs(type(told[1]), list)

    def test_ordinary(self):
        for spans, parents, text in TREES:
            self.check_tree(spans, parents)
            self.check_tree(spread(spans), parents)

    def test_hour_by_hour(self):
        for spans in trees_by_hours():
            self.check_tree(spans, parents_by_hours(spans))
            self.check_tree(spread(spans), parents_by_hours(spans))

    def test_two_hundred(self):
        self.check_tree([(0, 1)] * 200, [None] + list(range(199)))
        self.check_tree([(-hour, hour) for hour in range(1, 201)], list(range(1, 200)) + [None])
        self.check_tree([(hour, hour + 1) for hour in range(200)], [None] * 200)

    def test_hours_of_a_hundred_figures(self):
        self.check_tree(LONG[0], [2, 2, None])
        self.check_tree([(-HUGE, HUGE), (-HUGE, HUGE + 1), (-HUGE - 1, HUGE + 1), (HUGE, HUGE + 1)], [1, 2, None, 1])

    def test_refuses_what_is_no_stretch(self):
        for spans in bad_lists():
            self.refuse(NoStretch, nested, spans)
        self.refuse(NoStretch, nested, [(0, 4), (2, 6), (7, 7)])


class Crossings(SpanCase):
    def check_crossing(self, spans, told, meant):
        with self.subTest(spans=spans[:8]):
            self.assertIs(type(told), tuple)
            self.assertEqual(told[0], "crossing")
            word, one, other = told
            self.assertTrue(type(one) is int and type(other) is int)
            self.assertTrue(0 <= one < other < len(spans))
            self.assertTrue(crossing_by_hours(meant[one], meant[other]))

    def test_two_that_do_are_told_just_where_some_do(self):
        for spans in itertools.chain(small_lists(3), itertools.product(small_spans(0, 3), repeat=4), ORDINARY, MANY):
            spans = list(spans)
            if any_crossing_by_hours(spans):
                self.check_crossing(spans, self.ask(nested, spans), spans)
                self.check_crossing(spans, self.ask(nested, spread(spans)), spans)
                self.assertIsNone(self.ask(text_of, spans))
                self.assertIsNone(self.ask(text_of, spread(spans)))
            else:
                self.assertEqual(self.ask(nested, spans)[0], "tree")
                self.assertIs(type(self.ask(text_of, spans)), str)

    def test_the_only_pair(self):
        self.assertEqual(self.ask(nested, [(0, 4), (3, 6)]), ("crossing", 0, 1))
        self.assertEqual(self.ask(nested, [(3, 6), (0, 4)]), ("crossing", 0, 1))
        self.assertEqual(self.ask(nested, [(9, 10), (3, 6), (0, 9), (2, 4), (3, 4)]), ("crossing", 1, 3))
        self.assertEqual(self.ask(nested, [(0, 9)] * 100 + [(-1, 1)] + [(2, 3)] * 99)[2], 100)
        self.assertEqual(self.ask(nested, [(-HUGE, 1), (0, HUGE)]), ("crossing", 0, 1))

    def test_a_common_end_or_touching_is_no_crossing(self):
        for spans in [[(0, 4), (2, 4)], [(0, 4), (0, 2)], [(0, 4), (4, 6)], [(0, 4), (0, 4)], [(0, 4), (6, 7)]]:
            self.assertEqual(self.ask(nested, spans)[0], "tree")
            self.assertEqual(self.ask(nested, spans[::-1])[0], "tree")


class Brackets(SpanCase):
    def check_text(self, spans, text):
        with self.subTest(spans=spans[:8]):
            self.assertEqual(self.ask(text_of, spans), text)

    def test_ordinary(self):
        for spans, parents, text in TREES:
            self.check_text(spans, text)
            self.check_text(spread(spans), text)
            self.check_text(spans[::-1], text)

    def test_by_parents_told_hour_by_hour(self):
        for spans in trees_by_hours():
            text = text_by_parents(spans, parents_by_hours(spans))
            self.check_text(spans, text)
            self.check_text(spread(spans), text)

    def test_without_stretches(self):
        self.check_text([], "")

    def test_two_hundred(self):
        self.check_text([(0, 1)] * 200, "(" * 200 + ")" * 200)
        self.check_text([(-hour, hour) for hour in range(1, 201)], "(" * 200 + ")" * 200)
        self.check_text([(hour, hour + 1) for hour in range(199, -1, -1)], "()" * 200)
        self.check_text([(-hour, hour) for hour in range(1, 900)], "(" * 899 + ")" * 899)

    def test_hours_of_a_hundred_figures(self):
        self.check_text(LONG[0], "(()())")
        self.check_text([(-HUGE, HUGE)], "()")

    def test_none_where_some_cross(self):
        self.assertIsNone(self.ask(text_of, [(0, 4), (3, 6)]))
        self.assertIsNone(self.ask(text_of, [(3, 6), (0, 4)]))
        self.assertIsNone(self.ask(text_of, many_spans(200)))
        self.assertIsNone(self.ask(text_of, [(HUGE - 1, HUGE + 1), (-HUGE, HUGE)]))

    def test_refuses_what_is_no_stretch(self):
        for spans in bad_lists():
            self.refuse(NoStretch, text_of, spans)
        self.refuse(NoStretch, text_of, [(0, 4), (2, 6), (7, 7)])


class Interface(unittest.TestCase):
    def test_arguments(self):
        for function in [nested, text_of]:
            self.assertEqual(list(inspect.signature(function).parameters), ["spans"])


if __name__ == "__main__":
    unittest.main()
