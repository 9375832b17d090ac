"""The refusals, one class for each."""


class TakeError(ValueError):
    pass


class NoPair(TakeError):
    pass


class NoTable(TakeError):
    pass


class NoMove(TakeError):
    pass


class TooLong(TakeError):
    pass


class NoNote(TakeError):
    pass
