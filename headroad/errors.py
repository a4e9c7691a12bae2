"""The refusals of the program, one class for each."""


class RoadError(ValueError):
    pass


class BadHead(RoadError):
    pass


class BadAddress(RoadError):
    pass


class BadSpan(RoadError):
    pass


class BadLine(RoadError):
    pass


class FullBoard(RoadError):
    pass


class NoHead(RoadError):
    pass
