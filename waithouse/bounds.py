"""Bounds (a, b, c): the time from a to b is not above c. Gaps (a, b, low, high), and their bounds."""

from waithouse.errors import NoLink


def against(bound):
    """The bound that a schedule keeps just where it does not keep this one."""
    # Times are whole numbers: a time from a to b above c is at least c + 1.
    return (bound[1], bound[0], -bound[2] - 1)


def linked(one, other):
    """What two bounds come to, the second of which begins where the first one ends."""
    end = one[1]
    begin = other[0]
    if end != begin:
        raise NoLink(f"a bound that ends at point {end} does not link to one that begins with point {begin}")
    return (one[0], other[1], one[2] + other[2])


def chained(bounds):
    """What a list of bounds comes to, linked from the left."""
    if len(bounds) == 0:
        raise NoLink("no bounds make no chain")
    whole = bounds[0]
    for bound in bounds[1:]:
        whole = linked(whole, bound)
    return whole


def bounds_of(gap):
    """The bounds of a gap, as a new list: that of its high end, then that of its low end."""
    a = gap[0]
    b = gap[1]
    low = gap[2]
    high = gap[3]
    found = []
    if high is not None:
        found.append((a, b, high))
    if low is not None:
        # At least low from a to b is at most -low from b to a.
        found.append((b, a, -low))
    return found
