"""The refusals of spillmirror: each class stands straight under TankError."""


class TankError(ValueError):
    """Any refusal."""


class NoDays(TankError):
    """What is handed in is no row of days."""


class NoCap(TankError):
    """What is handed in is no cap."""


class NoStart(TankError):
    """What is handed in is no start of a tank of that cap."""


class NoMany(TankError):
    """What is handed in is no number of stretches."""


class NoLot(TankError):
    """What is handed in is no lot of these days."""


class NotBest(TankError):
    """The lot's worth is not the greatest of so many stretches."""


class NoNumber(TankError):
    """What is handed in is the number of no such lot."""


class NoMirror(TankError):
    """What is handed in can be neither spills nor bests."""


class NoMost(TankError):
    """What is handed in is no amount that may be spilled at most."""


class NoFive(TankError):
    """What is handed in is no five of that cap."""


class NoCaps(TankError):
    """What is handed in is no list of caps of vessels."""


class NoBounds(TankError):
    """What is handed in is no list of bounds of days."""


class NoLooks(TankError):
    """What is handed in is no list of looks."""


class NoMoment(TankError):
    """What is handed in is no moment of these days."""


class NoContent(TankError):
    """What is handed in is no content."""


class NoCore(TankError):
    """What is handed in is no core that some days have."""


class TooMany(TankError):
    """More numbers would be told than the told limit, many."""

    def __init__(self, many):
        self.many = many


class NoText(TankError):
    """What is handed in writes no thing of that kind."""
