"""Leaps: how far an order stands ahead of a place, found by steps that double."""


def leap(asker, order, first, place):
    """How many places of the order from first on, one behind the other, stand ahead of the place."""
    low = first - 1
    high = first
    wide = 1
    while high < len(order) and asker.ahead(order[high], place):
        low = high
        high += wide
        wide = wide * 2
    high = min(high, len(order))
    while high - low > 1:
        middle = (low + high) // 2
        if asker.ahead(order[middle], place):
            low = middle
        else:
            high = middle
    return high - first
