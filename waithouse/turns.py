"""Turns: which open point may be the next, and when, as time goes on; courses, and the limit of how long to wait.

What is handed in together, a table, a setting and a number now, is so that there is a course of them.
"""

from waithouse.rooms import greatest_time, least_time, points_open


def limit(table, setting):
    """The greatest number that no open point's time is below in some course; None where there is no greatest."""
    # The later of two courses is a course too: so in some course all open points are as late as each may be, or,
    # where one of them has no greatest time, as late as one likes. What hinders is the first to come to its end.
    ends = [greatest_time(table, setting, x) for x in points_open(setting)]
    return min([end for end in ends if end is not None], default=None)


def course(table, setting, now):
    """The schedule of the table with the setting's times that has each open point as soon as may be, not below now."""
    # The sooner of two courses is a course too, so the least times that the points have in any make one. Each of them
    # is told by the times that are set, and by those that open points may not be below, as if they were set at now.
    starts = [now if time is None else time for time in setting]
    return tuple([least_time(table, starts, x) for x in range(len(table))])


def turn(table, setting, now, x):
    """A tuple (low, high), the ends of the times at which x may be the next; high is None where there is no greatest.

    None where x can't be the next, or is not open.
    """
    if setting[x] is not None or must_follow(table, setting, x):
        return None
    # As x need not follow an open point, the soonest course by any later now has it at that now itself, once the times
    # that are set allow it; and up to the limit there is a course. So it may be the next at each time between.
    low = course(table, setting, now)[x]
    high = limit(table, setting)
    if high is not None and high < low:
        return None
    return (low, high)


def must_follow(table, setting, x):
    """Whether some open point has a lesser time than x in each schedule of the table."""
    return any([table[x][y] is not None and table[x][y] < 0 for y in points_open(setting)])
