"""The refusals of the program, one class for each."""


class WaitError(ValueError):
    """Any refusal."""


class NoLink(WaitError):
    """Bounds that don't link, or no bounds where a chain is asked for."""


class NoRoom(WaitError):
    """A time that does not lie in a point's room."""


class NoTime(WaitError):
    """A time to which one can't wait, or at which a point can't be marked."""


class NoName(WaitError):
    """A name by which nothing stands, by which something stands already, or that is none."""


class NoKeep(WaitError):
    """A gap with which there would be no course; `steps` tells a ring that shows it."""

    def __init__(self, steps):
        WaitError.__init__(self, "with this gap there would be no course")
        # A copy, so that what is done later to the list handed in does not change what is told.
        self.steps = list(steps)


class NoRow(WaitError):
    """A row that the desk does not know."""
