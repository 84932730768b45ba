"""The refusals of the house, each under MaskError and none under another one."""


class MaskError(ValueError):
    """Any refusal."""


class NoCell(MaskError):
    """There is no cell of that name."""


class TooMuch(MaskError):
    """More is asked for than is done."""


class NoSwitch(MaskError):
    """A channel is no switch; x and y are its first place."""

    def __init__(self, x, y):
        self.x = x
        self.y = y


class NoGiven(MaskError):
    """Worths can't be given so."""


class TooLong(MaskError):
    """Rounds go on for too long."""


class Ringed(MaskError):
    """Wires must lie above one another in a ring; ring is the tuple of them."""

    def __init__(self, ring):
        self.ring = ring


class NoText(MaskError):
    """A thing is no such text; at is the number of the row or sign where that shows."""

    def __init__(self, at):
        self.at = at


class NoRow(MaskError):
    """A thing is none of the desk's rows."""


class NoDeed(MaskError):
    """A row of the desk can't be done now."""
