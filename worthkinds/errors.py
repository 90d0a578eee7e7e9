"""The refusals of the program, one class for each."""


class WorthError(ValueError):
    pass


class NoKind(WorthError):
    pass


class NoWorth(WorthError):
    pass


class NoRule(WorthError):
    pass


class TooMany(WorthError):
    pass


class Ended(WorthError):
    pass


class NoText(WorthError):
    pass


class NoBack(WorthError):
    pass
