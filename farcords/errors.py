"""The refusals of the program, each straight under one base."""


class CordError(ValueError):
    """The base of all refusals."""


class TooMany(CordError):
    """There are more places than are walked."""


class NoDeed(CordError):
    """The thing is no deed of the hall."""


class NoRow(CordError):
    """The thing is no cord row."""


class NoCord(CordError):
    """The row is no single cord."""


class NoTurn(CordError):
    """The tie can't be turned."""


class NoText(CordError):
    """The text is not so written."""


class NoSheet(CordError):
    """What is written is no sheet."""


class NoName(CordError):
    """Nothing is kept by the name."""
