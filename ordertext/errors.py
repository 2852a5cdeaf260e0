"""The refusals, each by a class of its own under OrderError."""


class OrderError(ValueError):
    pass


class NoNumber(OrderError):
    pass


class NoOrder(OrderError):
    pass


class Clash(OrderError):
    pass


class NoField(OrderError):
    def __init__(self, word):
        OrderError.__init__(self, word)
        self.word = word


class NoRow(OrderError):
    def __init__(self, things):
        OrderError.__init__(self, things)
        self.things = things


class NoNet(OrderError):
    pass


class NoPlace(OrderError):
    pass


class NoThing(OrderError):
    pass


class NoAsk(OrderError):
    pass
