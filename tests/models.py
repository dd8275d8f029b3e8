"""The document's words once more, told another way: each of these asks by ahead(p, q) what its point tells."""


def stretch(ahead, first, end):
    """Point 23: what is told and asked of one stretch."""
    if first + 1 == end:
        return (end, False)
    falling = ahead(first + 1, first)
    for place in range(first + 2, end):
        if ahead(place, place - 1) != falling:
            return (place, falling)
    return (end, falling)


def stretches(ahead, many):
    """Point 24: one behind the other."""
    told = []
    while not told and many or told and told[-1][1] < many:
        first = told[-1][1] if told else 0
        told.append((first, *stretch(ahead, first, many)))
    return told


def spot(ahead, order, place, low=0, high=None):
    """Point 21: halving."""
    high = len(order) if high is None else high
    if low == high:
        return low
    middle = (low + high) // 2
    if ahead(order[middle], place):
        return spot(ahead, order, place, middle + 1, high)
    return spot(ahead, order, place, low, middle)


def put_in(order, spot, place):
    return order[:spot] + [place] + order[spot:]


def putting(ahead, many):
    order = []
    for place in range(many):
        order = put_in(order, spot(ahead, order, place), place)
    return order


def walking(ahead, many):
    """Point 22."""
    order = []
    for place in range(many):
        behind = []
        while order and not ahead(order[-1], place):
            behind.insert(0, order.pop())
        order += [place] + behind
    return order


def filled(ahead, first, least, end):
    """Point 25."""
    found, falling = stretch(ahead, first, end)
    order = list(range(first, found))[:: -1 if falling else 1]
    place = found
    while len(order) < least and place < end:
        order = put_in(order, spot(ahead, order, place), place)
        place += 1
    return (found, order)


class Refused(Exception):
    """A model's own word for TooFar: the place."""


def reach(ahead, many, wide):
    """Point 26."""
    order = []
    for place in range(many):
        rest = order[-wide:] if wide else []
        head = order[:len(order) - len(rest)]
        if head and ahead(place, head[-1]):
            raise Refused(place)
        order = head + put_in(rest, spot(ahead, rest, place), place)
    return order


def leap(ahead, order, first, place):
    """Point 27: the 1st, 2nd, 4th and so on, then halving."""
    those = order[first:]
    last_ahead = 0
    first_not = len(those) + 1
    asked = 1
    while asked <= len(those):
        if not ahead(those[asked - 1], place):
            first_not = asked
            break
        last_ahead = asked
        asked *= 2
    while first_not - last_ahead > 1:
        # Numbers of the order, as the document counts them, are these less 1 plus first.
        middle = (last_ahead - 1 + first + first_not - 1 + first) // 2 - first + 1
        if ahead(those[middle - 1], place):
            last_ahead = middle
        else:
            first_not = middle
    return last_ahead


def joined(ahead, left, right):
    """Point 28: wins are kept as a text of l and r."""
    left = list(left)
    right = list(right)
    told = []
    wins = ""
    while left and right:
        wins += "l" if ahead(left[0], right[0]) else "r"
        side, other = (left, right) if wins[-1] == "l" else (right, left)
        told.append(side.pop(0))
        if wins.endswith("llll") or wins.endswith("rrrr"):
            wins = ""
            if side:
                found = leap(ahead, side, 0, other[0])
                told += side[:found]
                del side[:found]
                if side:
                    told.append(other.pop(0))
    return told + left + right
