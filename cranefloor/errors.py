"""The refusals of the program."""


class CraneError(ValueError):
    pass


class NoFloor(CraneError):
    pass


class NoStanding(CraneError):
    pass


class NoLift(CraneError):
    pass


class OtherCrates(CraneError):
    pass


class TooMany(CraneError):
    pass


class NoNames(CraneError):
    pass


class NoOrder(CraneError):
    pass


class BadText(CraneError):
    pass
