"""The document's words once more, told another way: each of these asks by ahead(p, q) what its point tells."""


def stretch(ahead, first, end):
    """Point 23: what is told and asked of one stretch."""
    if first + 1 == end:
        return (end, False)
    falling = ahead(first + 1, first)
    for place in range(first + 2, end):
        if ahead(place, place - 1) != falling:
            return (place, falling)
    return (end, falling)


def stretches(ahead, many):
    """Point 24: one behind the other."""
    told = []
    while not told and many or told and told[-1][1] < many:
        first = told[-1][1] if told else 0
        told.append((first, *stretch(ahead, first, many)))
    return told


def spot(ahead, order, place, low=0, high=None):
    """Point 21: halving."""
    high = len(order) if high is None else high
    if low == high:
        return low
    middle = (low + high) // 2
    if ahead(order[middle], place):
        return spot(ahead, order, place, middle + 1, high)
    return spot(ahead, order, place, low, middle)


def put_in(order, spot, place):
    return order[:spot] + [place] + order[spot:]


def putting(ahead, many):
    order = []
    for place in range(many):
        order = put_in(order, spot(ahead, order, place), place)
    return order


def walking(ahead, many):
    """Point 22."""
    order = []
    for place in range(many):
        behind = []
        while order and not ahead(order[-1], place):
            behind.insert(0, order.pop())
        order += [place] + behind
    return order


def filled(ahead, first, least, end):
    """Point 25."""
    found, falling = stretch(ahead, first, end)
    order = list(range(first, found))[:: -1 if falling else 1]
    place = found
    while len(order) < least and place < end:
        order = put_in(order, spot(ahead, order, place), place)
        place += 1
    return (found, order)
