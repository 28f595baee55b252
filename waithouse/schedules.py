"""Schedules, tuples of a time for each point: what they keep, moved ones, the sooner and the later of two."""


def time_from(times, a, b):
    """The time from point a to point b."""
    return times[b] - times[a]


def keeps(times, bound):
    """Whether the schedule keeps the bound."""
    return time_from(times, bound[0], bound[1]) <= bound[2]


def keeps_gap(times, gap):
    """Whether the schedule keeps the gap; an end None asks nothing."""
    return lies_between(time_from(times, gap[0], gap[1]), gap[2], gap[3])


def lies_between(time, low, high):
    """Whether the time is not below low and not above high; an end None asks nothing."""
    return (low is None or low <= time) and (high is None or time <= high)


def moved(times, number):
    """The schedule with each time greater by the number."""
    return tuple([time + number for time in times])


def sooner(one, other):
    """The schedule with the lesser of two schedules' times at each point."""
    return tuple([min(pair) for pair in zip(one, other)])


def later(one, other):
    """The schedule with the greater of two schedules' times at each point."""
    return tuple([max(pair) for pair in zip(one, other)])
