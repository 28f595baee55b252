"""Two tables beside each other: a schedule of the one that does not lie in the other, or that there is none."""

from waithouse.bounds import against
from waithouse.picks import some_times
from waithouse.tables import held, told_bounds


def apart(one, other):
    """A schedule that lies in the one table, but not in the other; None where there is none."""
    if other is None:
        return some_times(one)
    # What does not lie in the other breaks one of its told bounds, so it keeps the bound against that one.
    for bound in told_bounds(other):
        times = some_times(held(one, against(bound)))
        if times is not None:
            return times
    return None


def within(one, other):
    """Whether each schedule of the one table lies in the other; two tables, each within the other, are equal."""
    return apart(one, other) is None
