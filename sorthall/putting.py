"""Putting in: each place is put in at its spot among those that are in order already."""

from sorthall.stretches import in_turn, stretch_from


def spot_of(asker, order, place):
    """How many places of the order stand ahead of the place, found by halving."""
    low = 0
    high = len(order)
    while low < high:
        middle = (low + high) // 2
        if asker.ahead(order[middle], place):
            low = middle + 1
        else:
            high = middle
    return low


def spot_from_behind(asker, order, place):
    """The same number, found by walking from the order's last place back."""
    spot = len(order)
    while spot > 0 and not asker.ahead(order[spot - 1], place):
        spot -= 1
    return spot


def by_putting(asker):
    """The row's paper: place after place is put in, its spot found by halving."""
    order = []
    for place in range(asker.many()):
        order.insert(spot_of(asker, order, place), place)
    return order


def by_walking(asker):
    """The row's paper: place after place is put in, its spot found from behind."""
    order = []
    for place in range(asker.many()):
        order.insert(spot_from_behind(asker, order, place), place)
    return order


def filled(asker, first, least, end=None):
    """A stretch and the next places put in until there are least: (the stretch's own beyond, places in order)."""
    stop = asker.many() if end is None else end
    part = stretch_from(asker, first, stop)
    found = part[0]
    order = in_turn(first, found, part[1])
    for place in range(found, min(first + least, stop)):
        order.insert(spot_of(asker, order, place), place)
    return (found, order)
