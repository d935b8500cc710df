"""The refusals of Everyroad."""


class RoadError(ValueError):
    pass


class NoPlace(RoadError):
    pass


class TooMany(RoadError):
    pass


class NoRound(RoadError):
    pass


class NoOrders(RoadError):
    pass


class NotEven(RoadError):
    pass


class NotWhole(RoadError):
    def __init__(self, left):
        RoadError.__init__(self, "the walk leaves roads out")
        # A copy, so that nothing hangs on the list that was handed in.
        self.left = list(left)


class NoExchange(RoadError):
    pass


class NoWindows(RoadError):
    pass


class NoRing(RoadError):
    pass


class NoNote(RoadError):
    pass
