"""The union of stretches, how many hours it has, and how few stretches cover a time."""

from spanbook.errors import NoStretch
from spanbook.spans import check_spans, how_long, places_at


def unions(spans):
    check_spans(spans)
    joined = []
    for span in sorted(spans):
        # Stretches that touch have no hour between them that is in none, so they are joined too.
        if joined and span[0] <= joined[-1][1]:
            joined[-1] = (joined[-1][0], max(joined[-1][1], span[1]))
        else:
            joined.append(span)
    return joined


def how_many_hours(spans):
    return sum([how_long(span) for span in unions(spans)])


def covering(spans, start, stop):
    check_spans(spans)
    check_time(start, stop)
    places = []
    hours = []
    hour = start
    while hour < stop:
        place = farthest_from(spans, hour)
        if place is None:
            return ("gap", hour)
        places.append(place)
        hours.append(hour)
        # No stretch that has this hour goes on beyond this stop, so none has the next hour too.
        hour = spans[place][1]
    return ("covered", sorted(places), hours)


def check_time(start, stop):
    if stop <= start:
        raise NoStretch("the time has no hour: its stop isn't greater than its start")


def farthest_from(spans, hour):
    return max(places_at(spans, hour), key=lambda place: spans[place][1], default=None)
