"""What is raised where something handed in is refused."""


class NoText(ValueError):
    """What was to be read is no such text; at tells where it goes wrong."""

    def __init__(self, at):
        self.at = at


class Unsorted(ValueError):
    """The second end of a range is below the first."""

    def __init__(self, low, high):
        self.low = low
        self.high = high


class NoBottom(ArithmeticError):
    """A number over nought; top tells which."""

    def __init__(self, top):
        self.top = top


class FigureError(Exception):
    """A refusal of the thing that it tells."""

    def __init__(self, thing):
        self.thing = thing


class NoCustom(FigureError):
    """The field of this name makes no custom."""


class NoWish(FigureError):
    """The field of this name makes no wish."""


class NoFit(FigureError):
    """A wish and a custom clash in this sign."""


class NoRead(FigureError):
    """This, handed in to be read, can't be read."""


class NoName(FigureError):
    """There is nothing of this name."""
