"""Rooms: the least and the greatest time of a point beside times that are set, and fillings of the open points."""


def room(table, setting, x):
    """A tuple (low, high), the ends of the times that x has in schedules with the setting's times.

    An end is None where there is no least, no greatest. The setting is one that goes with the table.
    """
    # A table tells all that lies between two points, and the times that are set go together: so each of them alone
    # tells how soon and how late x may be, and no two of them together tell more. Of a point that is set, its own
    # time tells both ends.
    return (least_time(table, setting, x), greatest_time(table, setting, x))


def least_time(table, setting, x):
    """The greatest of the least times that the setting's times, each alone, leave to x; None where none tells one."""
    return max([setting[p] - table[x][p] for p in points_set(setting) if table[x][p] is not None], default=None)


def greatest_time(table, setting, x):
    """The least of the greatest times that the setting's times, each alone, leave to x; None where none tells one."""
    return min([setting[p] + table[p][x] for p in points_set(setting) if table[p][x] is not None], default=None)


def points_set(setting):
    """The points of a setting that are not open."""
    return [x for x in range(len(setting)) if setting[x] is not None]


def points_open(setting):
    """The points of a setting that are open."""
    return [x for x in range(len(setting)) if setting[x] is None]


def filling(table, setting):
    """A schedule of the table with the setting's times. The setting is one that goes with the table."""
    times = list(setting)
    for x in range(len(table)):
        # With any time of its room, some schedule has all times by then, so the next point has a room too.
        times[x] = time_in(room(table, times, x))
    return tuple(times)


def time_in(ends):
    """Some time of a room with these ends."""
    low = ends[0]
    high = ends[1]
    if low is not None:
        return low
    if high is not None:
        return high
    return 0
