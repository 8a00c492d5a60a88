"""The refusals, one class for each."""


class SpanError(ValueError):
    pass


class NoStretch(SpanError):
    pass


class NoWeights(SpanError):
    pass


class NoOrder(SpanError):
    pass
