"""What the modules need in common of stretches: which are refused, their hours, what meets, what lies in what."""

from spanbook.errors import NoStretch


def check_spans(spans):
    for place, span in enumerate(spans):
        if span[1] <= span[0]:
            raise NoStretch(f"the stretch at place {place} has no hour: its stop isn't greater than its start")


def has_hour(span, hour):
    return span[0] <= hour and hour < span[1]


def places_at(spans, hour):
    return [place for place, span in enumerate(spans) if has_hour(span, hour)]


def how_long(span):
    return span[1] - span[0]


def meet(one, other):
    return one[0] < other[1] and other[0] < one[1]


def lies_in(inner, outer):
    return outer[0] <= inner[0] and inner[1] <= outer[1]
