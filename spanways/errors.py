"""The refusals: each stands straight under SpanError, so that all can be taken at once or one by one."""


class SpanError(ValueError):
    pass


class BadText(SpanError):
    def __init__(self, row):
        SpanError.__init__(self, f"row {row} can not stand where it stands")
        self.row = row


class Twice(SpanError):
    def __init__(self, word):
        SpanError.__init__(self, f"the label {word!r} keeps a fact already")
        self.word = word


class NoLabel(SpanError):
    def __init__(self, word):
        SpanError.__init__(self, f"the label {word!r} keeps no fact")
        self.word = word


class NoName(SpanError):
    def __init__(self, word):
        SpanError.__init__(self, f"no stretch is called {word!r}")
        self.word = word


class BadFact(SpanError):
    pass


class TooMany(SpanError):
    pass
