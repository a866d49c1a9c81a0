"""The refusals: each has its own class, and all stand under QuayError."""


class QuayError(ValueError):
    pass


class NoFleet(QuayError):
    pass


class NoPlan(QuayError):
    pass


class NoText(QuayError):
    pass


class NoRow(QuayError):
    pass


class NoName(QuayError):
    pass


class NoShip(QuayError):
    pass
