"""The refusals, each of a class of its own under one base."""


class CarryError(ValueError):
    pass


class NoName(CarryError):
    pass


class NoSize(CarryError):
    pass


class NoOut(CarryError):
    pass


class NoHand(CarryError):
    pass


class NoWay(CarryError):
    pass


class NoMoment(CarryError):
    pass


class NoFlight(CarryError):
    pass


class NoBelt(CarryError):
    pass


class NoRoom(CarryError):
    pass


class NoBag(CarryError):
    pass


class NoDeed(CarryError):
    pass


class NoLine(CarryError):
    def __init__(self, line):
        # The words leave the line's number out: Python refuses to write very big numbers by figures.
        CarryError.__init__(self, "a line is none that a house's text may have")
        self.line = line
