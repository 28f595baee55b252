"""Schedules picked from a table, and the soonest and latest times of its points."""

from waithouse.tables import held


def some_times(table):
    """A schedule that lies in the table, None of the empty table."""
    if table is None:
        return None
    return latest_to_zero(table)


def latest_to_zero(table):
    """The schedule of a table that is not empty that has at each point the latest time, where none is above 0."""
    # As if a point more stood at 0, and no other came behind it: a time is the least of the entries to its point.
    return tuple([least_entry_to(table, b) for b in range(len(table))])


def least_entry_to(table, b):
    """The least entry from any point to b, 0 or below, as that from b to itself is 0."""
    return min([row[b] for row in table if row[b] is not None])


def reaching(table, a, b, number):
    """A schedule of the table with at least the number as its time from a to b, None where there is none."""
    # At least the number from a to b is at most -number from b to a.
    return some_times(held(table, (b, a, -number)))


def soonest(table, a, time):
    """For each point the least time that it has where a is at the time, None where there is no least."""
    return [None if row[a] is None else time - row[a] for row in table]


def latest(table, a, time):
    """For each point the greatest time that it has where a is at the time, None where there is no greatest."""
    return [None if entry is None else time + entry for entry in table[a]]
