"""The refusals: each stands straight under SeekError, so that none is taken for another one."""


class SeekError(ValueError):
    pass


class NoName(SeekError):
    pass


class NoNumber(SeekError):
    pass


class NoThing(SeekError):
    pass


class NoKey(SeekError):
    pass


class NoTie(SeekError):
    pass


class Twice(SeekError):
    pass


class StillTied(SeekError):
    pass


class Full(SeekError):
    pass


class NoRow(SeekError):
    pass


class NoPiece(SeekError):
    pass


class TooGreat(SeekError):
    pass


class NoPattern(SeekError):
    pass


class NoWay(SeekError):
    pass


class NoQuestion(SeekError):
    pass


class NoPlan(SeekError):
    pass


class NoFilling(SeekError):
    pass
