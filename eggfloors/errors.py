"""The refusals: one class for each, all of them under FloorError."""


class FloorError(ValueError):
    pass


class NoCase(FloorError):
    pass


class NoPlan(FloorError):
    pass


class NoFloor(FloorError):
    pass


class BadLine(FloorError):
    pass
