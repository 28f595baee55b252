"""Tables: the greatest time from each point to each point, None where there is no greatest; None is the empty table."""

from waithouse.schedules import keeps


def wide(count):
    """The open table, in which every schedule lies."""
    return [wide_row(count, a) for a in range(count)]


def wide_row(count, a):
    """The row of point a in the open table."""
    return [0 if a == b else None for b in range(count)]


def lies(table, times):
    """Whether the schedule lies in the table, whichever table it is."""
    if table is None:
        return False
    # A table that no function told may have any entry from a point to itself, so these are asked too.
    return all([keeps(times, bound) for bound in entries(table)])


def entries(table):
    """The entries that are numbers, each as the bound that it asks for, in the order of the rows."""
    found = []
    for a in range(len(table)):
        for b in range(len(table)):
            if table[a][b] is not None:
                found.append((a, b, table[a][b]))
    return found


def table_of(count, bounds):
    """The table of all schedules that keep all the bounds."""
    table = wide(count)
    for bound in bounds:
        table = held(table, bound)
    return table


def held(table, bound):
    """The table of those schedules of the table that keep the bound, as a new list of new lists."""
    if table is None or shuts(bound, table):
        return None
    return [held_row(table, a, bound) for a in range(len(table))]


def shuts(bound, table):
    """Whether no schedule of the table keeps the bound."""
    # -back is the least time from a to b that a schedule of the table has, so if that one is too much, all are.
    back = table[bound[1]][bound[0]]
    return back is not None and back + bound[2] < 0


def held_row(table, a, bound):
    """The row of point a, when the bound is kept too."""
    # A shortest chain takes the new bound once at most: taken twice, it would hold a ring that comes to 0 or more.
    ahead = total(table[a][bound[0]], bound[2])
    behind = table[bound[1]]
    return [lesser(table[a][b], total(ahead, behind[b])) for b in range(len(table))]


def total(one, other):
    """The sum of two greatest times; where one has no greatest, the sum has none."""
    if one is None or other is None:
        return None
    return one + other


def lesser(one, other):
    """The lesser of two greatest times, of which None asks nothing."""
    if one is None:
        return other
    if other is None:
        return one
    return min(one, other)


def told_bounds(table):
    """The bounds between unlike points that a table tells, in the order of a, then of b."""
    return [bound for bound in entries(table) if bound[0] != bound[1]]
