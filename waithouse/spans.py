"""The span of a schedule, from its first time to its last one, and the shortest span of a table."""

from waithouse.picks import latest_to_zero


def span(times):
    """The greatest time less the least one."""
    return max(times) - min(times)


def shortest(table):
    """A tuple of the least span of any schedule of a table that is not empty, and one that has it."""
    # Any schedule, moved so that it ends at 0, has no time later than this one has there, so it begins no later;
    # and this one ends at 0 too, or it could be moved later.
    times = latest_to_zero(table)
    return (span(times), times)
