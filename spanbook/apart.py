"""Stretches apart, as many or as heavy as can be, and the hours or prices that show it."""

from spanbook.errors import NoWeights
from spanbook.spans import check_spans, has_hour, meet


def most_apart(spans):
    check_spans(spans)
    places = []
    pins = []
    for place in by_stop(spans):
        # It stops no earlier than the one chosen last, so if it meets that one it has its last hour, the pin.
        if not pins or not has_hour(spans[place], pins[-1]):
            places.append(place)
            pins.append(last_hour(spans[place]))
    return (sorted(places), pins)


def heaviest(spans, weights):
    check_spans(spans)
    check_weights(spans, weights)
    prices = {}
    raisers = []
    for place in by_stop(spans):
        missing = weights[place] - cost(spans[place], prices)
        if missing > 0:
            hour = last_hour(spans[place])
            prices[hour] = prices.get(hour, 0) + missing
            raisers.append(place)
    # The hours came in by rising stops, and a dict keeps that order.
    return (sorted(apart_from_the_last(spans, raisers)), list(prices.items()))


def check_weights(spans, weights):
    if len(weights) != len(spans) or any([weight < 0 for weight in weights]):
        raise NoWeights("weights have a whole number, nought or more, for each stretch")


def by_stop(spans):
    return sorted(range(len(spans)), key=lambda place: spans[place][1])


def last_hour(span):
    return span[1] - 1


def cost(span, prices):
    return sum([price for hour, price in prices.items() if has_hour(span, hour)])


def apart_from_the_last(spans, raisers):
    # A raiser is left out only for a chosen one that has its last hour, so each price is part of what just one of
    # the chosen costs. And no chosen one's cost was raised behind its turn: it would have been left out for the
    # raiser, or for what the raiser was left out for. So the chosen ones weigh together what all prices come to.
    chosen = []
    for place in reversed(raisers):
        # It stops no later than the one chosen last, so it meets none of those further on if it doesn't meet that.
        if not chosen or not meet(spans[chosen[-1]], spans[place]):
            chosen.append(place)
    return chosen
