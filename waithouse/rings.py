"""Rings, which show that no schedule keeps some bounds, and chains, which show that no time is above an entry."""

from waithouse.tables import held, wide


def ring(count, bounds):
    """The places of some bounds that form a ring with a sum below 0, None where a schedule keeps them all."""
    return search(count, bounds)[1]


def chain(count, bounds, a, b):
    """The places of a chain that comes to the table's entry from a to b, None where there is none."""
    ways = search(count, bounds)[0]
    if ways is None:
        return None
    return ways[a][b]


def search(count, bounds):
    """A tuple (ways, places): the ways of the bounds' table, or the places of a ring; the other one is None.

    The ways have for each entry the places of a chain that comes to it, None where the entry is None.
    """
    table = wide(count)
    ways = [first_ways(row) for row in table]
    for place in range(len(bounds)):
        bound = bounds[place]
        narrower = held(table, bound)
        if narrower is None:
            return (None, [place] + ways[bound[1]][bound[0]])
        ways = [led(ways, a, bound, place, narrowed(table[a], narrower[a])) for a in range(count)]
        table = narrower
    return (ways, None)


def first_ways(row):
    """The ways of a row of the open table: without places to the row's own point, none to others."""
    return [None if entry is None else [] for entry in row]


def narrowed(row, other):
    """For each entry of a row whether it is another one in the other row."""
    return [row[b] != other[b] for b in range(len(row))]


def led(ways, a, bound, place, changes):
    """The ways from point a, those by way of the bound at the place where the entry changes."""
    # No way comes to a point twice: the round between would hold the new bound, as old ways come to no point twice,
    # and come to 0 or more, so the entry would not have changed. So ways and rings are as short as is asked.
    return [by_way(ways, a, b, bound, place) if changes[b] else ways[a][b] for b in range(len(ways))]


def by_way(ways, a, b, bound, place):
    """The way from a to b that takes the bound at the place."""
    return ways[a][bound[0]] + [place] + ways[bound[1]][b]
