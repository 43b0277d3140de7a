"""The refusals: each stands under RateError, and none under another one."""


class RateError(ValueError):
    pass


class NoName(RateError):
    pass


class Twice(RateError):
    pass


class TooMuch(RateError):
    pass


class NoWork(RateError):
    pass


class NoBelt(RateError):
    pass


class NoRate(RateError):
    pass


class Empty(RateError):
    pass


class NotBalanced(RateError):
    pass


class TooLong(RateError):
    pass


class NoRoom(RateError):
    pass


class Stuck(RateError):
    pass


class NoForm(RateError):
    pass


class NoPieces(RateError):
    pass


class NoFit(RateError):
    pass


class NoText(RateError):
    pass


class NoLine(RateError):
    pass
