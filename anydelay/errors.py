"""The refusals of the program, one class for each."""


class NetError(ValueError):
    pass


class NoStanding(NetError):
    pass


class NoStep(NetError):

    # at is the number of the name that is at fault in an order, None where there is no order.
    def __init__(self, words, at=None):
        NetError.__init__(self, words)
        self.at = at


class NoFit(NetError):
    pass


class NoText(NetError):
    pass


class NoName(NetError):
    pass


class NoRow(NetError):
    pass
