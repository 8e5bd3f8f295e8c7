"""The refusals, one class for each; every one of them is a LimitError."""


class LimitError(ValueError):
    pass


class NoDesk(LimitError):
    pass


class BadPoint(LimitError):
    pass


class NoGoal(LimitError):
    pass


class NoPlace(LimitError):
    pass


class NoPoint(LimitError):
    pass


class NoTable(LimitError):
    pass


class NoText(LimitError):
    pass


class TooMany(LimitError):
    pass


class Unlike(LimitError):
    pass
