"""Crowds, good colours that are as few as a crowd has stretches, and the orders that lead to them."""

from spanbook.errors import NoOrder
from spanbook.spans import check_spans, meet, places_at


def crowd(spans):
    check_spans(spans)
    fullest = None
    # From one hour to the next, stretches are gained at starts alone: so some start has as many as any hour.
    for span in spans:
        places = places_at(spans, span[0])
        if fullest is None or len(places) > len(fullest[1]):
            fullest = (span[0], places)
    return fullest


def beads(spans):
    # What a stretch meets of those ahead of it has its start too, so together they are no more than a crowd.
    return colours_by(spans, list(reversed(last_first(spans))))


def colours_by(spans, order):
    check_spans(spans)
    check_order(spans, order)
    colours = [None] * len(spans)
    for place in order:
        colours[place] = least_free(spans, colours, place)
    return colours


def check_order(spans, order):
    # In a list that is as long as the stretches are many, no place stands twice unless another is gone.
    if len(order) != len(spans) or not all([place in order for place in range(len(spans))]):
        raise NoOrder("an order has the places of all stretches, each once")


def least_free(spans, colours, place):
    taken = {}
    for other, colour in enumerate(colours):
        if colour is not None and meet(spans[other], spans[place]):
            taken[colour] = True
    least = 0
    while least in taken:
        least += 1
    return least


def last_first(spans):
    check_spans(spans)
    # What stands behind a stretch starts no later, so if it meets the stretch it has the stretch's start:
    # all such stretches have that hour in common.
    return sorted(range(len(spans)), key=lambda place: spans[place][0], reverse=True)
