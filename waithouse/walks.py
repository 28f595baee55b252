"""Walks: the points of a table placed one by one, in any order, each at a time of its room."""

from waithouse.errors import NoRoom
from waithouse.rooms import filling, room
from waithouse.schedules import lies_between


class Walk:
    """A table that is not empty, and the times at which its points are placed; at first all points are open."""

    def __init__(self, table):
        # A copy row by row, so that what is done later to the table handed in changes no answer.
        self.rows = [list(row) for row in table]
        self.times = [None for row in table]

    def room(self, x):
        """A tuple (low, high), the ends of the times at which x may be placed."""
        return room(self.rows, self.times, x)

    def place(self, x, time):
        """Places x at a time of its room, any other is refused with NoRoom."""
        ends = self.room(x)
        if not lies_between(time, ends[0], ends[1]):
            raise NoRoom(f"the time does not lie in the room of point {x}")
        self.times[x] = time

    def lift(self, x):
        """Makes x open again."""
        self.times[x] = None

    def setting(self):
        """The times of the points, None of an open one, as a new list."""
        return list(self.times)

    def filling(self):
        """A schedule of the table that has the times of all placed points."""
        return filling(self.rows, self.times)
