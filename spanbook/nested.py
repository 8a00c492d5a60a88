"""Which stretches lie within which, as parents and as brackets, or two that cross."""

from spanbook.spans import check_spans, how_long, lies_in, meet


def nested(spans):
    check_spans(spans)
    pair = crossing_pair(spans)
    if pair is not None:
        return ("crossing", pair[0], pair[1])
    return ("tree", [parent(spans, place) for place in range(len(spans))])


def crossing_pair(spans):
    for other in range(len(spans)):
        for one in range(other):
            if cross(spans[one], spans[other]):
                return (one, other)
    return None


def cross(one, other):
    return meet(one, other) and not lies_in(one, other) and not lies_in(other, one)


def parent(spans, place):
    holders = [other for other in range(len(spans)) if holds(spans, other, place)]
    return min(holders, key=lambda other: (how_long(spans[other]), -other), default=None)


def holds(spans, other, place):
    if spans[other] == spans[place]:
        return other < place
    return lies_in(spans[place], spans[other])


def text_of(spans):
    check_spans(spans)
    if crossing_pair(spans) is not None:
        return None
    signs = []
    stops = []
    # Of those with one start the longest goes first, as the others lie in it.
    for span in sorted(spans, key=lambda one: (one[0], -one[1])):
        while stops and stops[-1] <= span[0]:
            stops.pop()
            signs.append(")")
        signs.append("(")
        stops.append(span[1])
    return "".join(signs) + ")" * len(stops)
