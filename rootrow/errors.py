"""The refusals of the program."""


class RowError(ValueError):
    pass


class NoNumber(RowError):
    pass
