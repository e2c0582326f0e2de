"""The refusals of the program: one class for each, all right under ChiefError."""


class ChiefError(ValueError):
    pass


class NoWheel(ChiefError):
    pass


class NoForm(ChiefError):
    pass


class NoKind(ChiefError):
    pass


class NoRoad(ChiefError):
    pass


class NoMake(ChiefError):
    pass


class NoHead(ChiefError):
    pass


class TooBig(ChiefError):
    pass


class NoName(ChiefError):
    pass


class NoNumber(ChiefError):
    pass


class NoDeed(ChiefError):
    pass


class NoReading(ChiefError):
    pass


class OutOfSteps(ChiefError):
    pass


class NoText(ChiefError):
    pass


class Uneven(ChiefError):
    pass
