"""Clocks: the points of a table set as time goes on, each at a time at which it may be the next."""

from waithouse.errors import NoTime
from waithouse.schedules import lies_between
from waithouse.turns import course, limit, turn


class Clock:
    """A table that is not empty, the time by now, and the times of the points marked; at first all points are open."""

    def __init__(self, table, start):
        # A copy row by row, so that what is done later to the table handed in changes no answer.
        self.rows = [list(row) for row in table]
        self.times = [None for row in table]
        self.present = start

    def now(self):
        """The time that it is."""
        return self.present

    def setting(self):
        """The times of the points, None of an open one, as a new list."""
        return list(self.times)

    def limit(self):
        """The greatest time that may be waited to, None where there is no greatest."""
        return limit(self.rows, self.times)

    def turn(self, x):
        """A tuple (low, high), the ends of the times at which x may be marked, None where it can't be the next."""
        return turn(self.rows, self.times, self.present, x)

    def course(self):
        """A schedule of the table with the times of all marked points, and no open one below now."""
        return course(self.rows, self.times, self.present)

    def wait(self, time):
        """Makes the time the one by now; one below now or above the limit is refused with NoTime."""
        if not lies_between(time, self.present, self.limit()):
            raise NoTime("this can't be waited to: it is below now or above the limit")
        self.present = time

    def mark(self, x, time):
        """Sets x at a time of its turn, which it then is; any other is refused with NoTime."""
        ends = self.turn(x)
        if ends is None or not lies_between(time, ends[0], ends[1]):
            raise NoTime(f"the time does not lie in a turn of point {x}")
        self.times[x] = time
        self.present = time
