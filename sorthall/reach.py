"""By reach: a row that is nearly in order, each place put in among the last few alone."""

from sorthall.errors import TooFar
from sorthall.putting import spot_of


def by_reach(asker, reach):
    """The row's paper; refused with TooFar where a place stands ahead of more than reach lesser ones."""
    order = []
    for place in range(asker.many()):
        start = max(0, len(order) - reach)
        if start > 0 and not asker.ahead(order[start - 1], place):
            # What stands behind one that the place stands ahead of stands behind the place too.
            raise TooFar(place, sorted(order[start - 1:]))
        order.insert(start + spot_of(asker, order[start:], place), place)
    return order
