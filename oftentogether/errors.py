"""The refusals, each with a class of its own."""


class OftenError(ValueError):
    pass


class NoShare(OftenError):
    pass


class NoStore(OftenError):
    pass


class NoRun(OftenError):
    pass


class NoTree(OftenError):
    pass


class NoText(OftenError):
    pass


class NotThere(OftenError):
    def __init__(self, there):
        OftenError.__init__(self, f"only {there} such baskets are kept")
        self.there = there


class TooGreat(OftenError):
    def __init__(self, most):
        OftenError.__init__(self, f"there may be {most} at most")
        self.most = most
