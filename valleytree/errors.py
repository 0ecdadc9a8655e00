"""The refusals, one class each."""


class RowError(ValueError):
    pass


class NoRow(RowError):
    pass


class NoPlace(RowError):
    pass


class NoStretch(RowError):
    pass


class NoTree(RowError):
    pass


class NoOrder(RowError):
    pass


class NoNumber(RowError):
    pass


class NoSky(RowError):
    pass
