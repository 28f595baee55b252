"""Houses: gaps that stand by names, and what all of them together tell."""

from waithouse.bounds import bounds_of
from waithouse.errors import NoName
from waithouse.rings import chain, ring
from waithouse.tables import table_of


class House:
    """A count of points, and gaps by their names in the order in which they were added; at first there are none."""

    def __init__(self, count):
        self.count = count
        self.gaps = {}

    def add(self, name, a, b, low=None, high=None):
        """Adds the gap (a, b, low, high) by a name; one by which a gap stands is refused with NoName."""
        if name in self.gaps:
            raise NoName(f"a gap stands already by the name {name!r}")
        self.gaps[name] = (a, b, low, high)

    def drop(self, name):
        """Takes out the gap by the name; one by which none stands is refused with NoName."""
        self.need(name)
        self.gaps.pop(name)

    def need(self, name):
        """Refuses a name by which no gap stands with NoName."""
        if name not in self.gaps:
            raise NoName(f"no gap stands by the name {name!r}")

    def names(self):
        """The names of the gaps, as a new list, in the order in which they were added."""
        return list(self.gaps)

    def gap(self, name):
        """The gap by the name, a tuple (a, b, low, high); a name by which none stands is refused with NoName."""
        self.need(name)
        return self.gaps[name]

    def table(self):
        """The table of all schedules that keep all the gaps."""
        return table_of(self.count, all_bounds(self.gaps))

    def ring(self):
        """The names of bounds that form a ring with a sum below 0, None where a schedule keeps all the gaps."""
        return names_at(self.gaps, ring(self.count, all_bounds(self.gaps)))

    def chain(self, a, b):
        """The names of bounds that form a chain that comes to the table's entry from a to b, None where none does."""
        return names_at(self.gaps, chain(self.count, all_bounds(self.gaps), a, b))

    def idle(self, name):
        """Whether the house without the gap has the same table; a name by which none stands is refused with NoName."""
        self.need(name)
        others = dict(self.gaps)
        others.pop(name)
        return table_of(self.count, all_bounds(others)) == self.table()


def all_bounds(gaps):
    """The bounds of gaps that stand by names, gap by gap."""
    found = []
    for gap in gaps.values():
        found.extend(bounds_of(gap))
    return found


def all_bound_names(gaps):
    """The name of each of the bounds of gaps, a tuple of the gap's name and the end, in the order of the bounds."""
    found = []
    for name in gaps:
        found.extend([(name, end) for end in ends_of(gaps[name])])
    return found


def ends_of(gap):
    """Which ends of a gap ask something, in the order in which its bounds are told."""
    ends = []
    if gap[3] is not None:
        ends.append("high")
    if gap[2] is not None:
        ends.append("low")
    return ends


def names_at(gaps, places):
    """The names of the bounds at some places, None where there are no such places."""
    if places is None:
        return None
    found = all_bound_names(gaps)
    return [found[place] for place in places]
