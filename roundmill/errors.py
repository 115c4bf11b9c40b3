"""The refusals: one class each, all of them straight under MillError."""


class MillError(ValueError):
    pass


class NoSize(MillError):
    pass


class NoBits(MillError):
    pass


class NoParts(MillError):
    pass


class NoRank(MillError):
    pass


class NotFinite(MillError):
    pass


class NoWay(MillError):
    pass


class NoFlags(MillError):
    pass


class NoFraction(MillError):
    pass


class Unlike(MillError):
    pass


class Empty(MillError):
    pass


class NoLeft(MillError):
    pass


class NoText(MillError):
    pass


class NoRow(MillError):
    pass


class NoName(MillError):
    pass


class Stopped(MillError):
    def __init__(self, at, told):
        # The words bear no number: Python does not write those of very many figures.
        MillError.__init__(self, "a row of the run was refused")
        self.at = at
        # A copy, so that what becomes of the list later does not change what is told here.
        self.told = list(told)
