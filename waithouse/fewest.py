"""Bounds that stand alone, which no others of their list tell, and the fewest that tell as much as all."""

from waithouse.bounds import against
from waithouse.picks import some_times
from waithouse.tables import held, table_of


def alone(count, bounds, place):
    """A schedule that keeps all bounds but the one at the place, and not that one; None where there is none."""
    return breaking(count, bounds[:place] + bounds[place + 1:], bounds[place])


def breaking(count, others, bound):
    """A schedule that keeps the others, but not the bound; None where there is none."""
    return some_times(held(table_of(count, others), against(bound)))


def fewest(count, bounds):
    """The places left when each is left out, from first to last, whose bound the others that are left tell."""
    left = list(range(len(bounds)))
    for place in range(len(bounds)):
        others = [other for other in left if other != place]
        if breaking(count, [bounds[other] for other in others], bounds[place]) is None:
            left = others
    return left
