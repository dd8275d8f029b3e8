"""The document's words once more, told another way: each of these asks by ahead(p, q) what its point tells."""


def stretch(ahead, first, end):
    """Point 23: what is told and asked of one stretch."""
    if first + 1 == end:
        return (end, False)
    falling = ahead(first + 1, first)
    for place in range(first + 2, end):
        if ahead(place, place - 1) != falling:
            return (place, falling)
    return (end, falling)


def stretches(ahead, many):
    """Point 24: one behind the other."""
    told = []
    while not told and many or told and told[-1][1] < many:
        first = told[-1][1] if told else 0
        told.append((first, *stretch(ahead, first, many)))
    return told


def spot(ahead, order, place, low=0, high=None):
    """Point 21: halving."""
    high = len(order) if high is None else high
    if low == high:
        return low
    middle = (low + high) // 2
    if ahead(order[middle], place):
        return spot(ahead, order, place, middle + 1, high)
    return spot(ahead, order, place, low, middle)


def put_in(order, spot, place):
    return order[:spot] + [place] + order[spot:]


def putting(ahead, many):
    order = []
    for place in range(many):
        order = put_in(order, spot(ahead, order, place), place)
    return order


def walking(ahead, many):
    """Point 22."""
    order = []
    for place in range(many):
        behind = []
        while order and not ahead(order[-1], place):
            behind.insert(0, order.pop())
        order += [place] + behind
    return order


def filled(ahead, first, least, end):
    """Point 25."""
    found, falling = stretch(ahead, first, end)
    order = list(range(first, found))[:: -1 if falling else 1]
    place = found
    while len(order) < least and place < end:
        order = put_in(order, spot(ahead, order, place), place)
        place += 1
    return (found, order)


class Refused(Exception):
    """A model's own word for TooFar: the place."""


def reach(ahead, many, wide):
    """Point 26."""
    order = []
    for place in range(many):
        rest = order[-wide:] if wide else []
        head = order[:len(order) - len(rest)]
        if head and ahead(place, head[-1]):
            raise Refused(place)
        order = head + put_in(rest, spot(ahead, rest, place), place)
    return order


def leap(ahead, order, first, place):
    """Point 27: the 1st, 2nd, 4th and so on, then halving."""
    those = order[first:]
    last_ahead = 0
    first_not = len(those) + 1
    asked = 1
    while asked <= len(those):
        if not ahead(those[asked - 1], place):
            first_not = asked
            break
        last_ahead = asked
        asked *= 2
    while first_not - last_ahead > 1:
        # Numbers of the order, as the document counts them, are these less 1 plus first.
        middle = (last_ahead - 1 + first + first_not - 1 + first) // 2 - first + 1
        if ahead(those[middle - 1], place):
            last_ahead = middle
        else:
            first_not = middle
    return last_ahead


def joined(ahead, left, right):
    """Point 28: wins are kept as a text of l and r."""
    left = list(left)
    right = list(right)
    told = []
    wins = ""
    while left and right:
        wins += "l" if ahead(left[0], right[0]) else "r"
        side, other = (left, right) if wins[-1] == "l" else (right, left)
        told.append(side.pop(0))
        if wins.endswith("llll") or wins.endswith("rrrr"):
            wins = ""
            if side:
                found = leap(ahead, side, 0, other[0])
                told += side[:found]
                del side[:found]
                if side:
                    told.append(other.pop(0))
    return told + left + right


def counting(ahead):
    """The same, and a list with an entry for each ask made."""
    asks = []

    def counted(p, q):
        said = ahead(p, q)
        asks.append(said)
        return said

    return counted, asks


def seam(many, first, middle, beyond):
    """Point 30."""
    power = 2
    while (first + middle) * power // (2 * many) == (middle + beyond) * power // (2 * many):
        power *= 2
    return power.bit_length() - 1


class Laid:
    """A stretch on a model's pile, with the grade of the seam beneath it."""

    def __init__(self, first, beyond, order, beneath):
        self.first = first
        self.beyond = beyond
        self.order = order
        self.beneath = beneath


def pile(ahead, first, beyond, least):
    """Points 31 to 33: behind each step the deed, what stands, the paper, and how many asks were made."""
    ahead, asks = counting(ahead)
    stack = []
    told = []
    deed = ""
    while deed is not None:
        reached = stack[-1].beyond if stack else first
        if len(stack) > 2 and stack[-2].beneath > stack[-1].beneath:
            deed = join_of_pile(ahead, stack, -3)
        elif reached < beyond:
            found, order = filled(ahead, reached, least, beyond)
            end = reached + len(order)
            below = stack and seam(beyond - first, stack[-1].first - first, reached - first, end - first) or 0
            stack.append(Laid(reached, end, order, below))
            deed = ("lay", reached, found, end)
        else:
            deed = join_of_pile(ahead, stack, -2) if len(stack) > 1 else None
        above = [part.beneath for part in stack[1:]] + [0]
        standing = [(part.first, part.beyond, other) for part, other in zip(stack, above)]
        reached = stack[-1].beyond if stack else first
        paper = [place for part in stack for place in part.order] + list(range(reached, beyond))
        told.append((deed, standing, paper, len(asks)))
    return told


def join_of_pile(ahead, stack, spot):
    lower, upper = stack[spot], stack[spot + 1]
    order = joined(ahead, lower.order, upper.order)
    stack[len(stack) + spot:len(stack) + spot + 2] = [Laid(lower.first, upper.beyond, order, lower.beneath)]
    return ("join", lower.first, upper.first, upper.beyond)


class Meeting:
    """A tree of pieces: of one, or a meeting of two trees."""

    def __init__(self, pieces):
        self.pieces = pieces
        self.went = None
        half = (len(pieces) + 1) // 2
        self.sides = [Meeting(pieces[:half]), Meeting(pieces[half:])] if len(pieces) > 1 else []

    def hold(self, better, end, only=None):
        """Hold all meetings, or those on the way of one piece alone."""
        if not self.sides:
            self.went = (self.pieces[0][end], self.pieces[0]) if self.pieces and self.pieces[0] else None
            return
        for side in self.sides:
            if only is None or any(piece is only for piece in side.pieces):
                side.hold(better, end, only)
        fronts = [side.went for side in self.sides if side.went is not None]
        self.went = fronts[0] if fronts else None
        if len(fronts) == 2 and not better(fronts[0][0], fronts[1][0]):
            self.went = fronts[1]


def pour(ahead, pieces, last=False):
    """Points 36 to 38: behind the making and each take what was taken, the first, what is left, how many asks."""
    ahead, asks = counting(ahead)
    tree = Meeting([list(piece) for piece in pieces])
    end = -1 if last else 0

    def better(p, q):
        return ahead(p, q) != last

    tree.hold(better, end)
    told = [(None, tree.went and tree.went[0], sum(map(len, tree.pieces)), len(asks))]
    while tree.went is not None:
        place, piece = tree.went
        piece.pop(end)
        tree.hold(better, end, piece)
        told.append((place, tree.went and tree.went[0], sum(map(len, tree.pieces)), len(asks)))
    return told


def poured(ahead, pieces):
    return [place for place, front, left, asked in pour(ahead, pieces)[1:]]


def rounds(ahead, pieces, mouths):
    """Point 39."""
    numbers = []
    while len(pieces) > 1:
        rest, pieces = pieces, []
        while rest:
            pieces.append(poured(ahead, rest[:mouths]))
            rest = rest[mouths:]
        numbers.append(len(pieces))
    return (list(pieces[0]) if pieces else [], numbers)


def pieces_way(ahead, many, wide, mouths, least):
    """Point 40."""
    pieces = []
    for first in range(0, many, wide):
        pieces.append(pile(ahead, first, min(many, first + wide), least)[-1][2])
    return rounds(ahead, pieces, mouths)[0]


def cut(ahead, left, right, many):
    """Point 41."""

    def halved(low, high):
        if low == high:
            return low
        middle = (low + high) // 2
        return halved(middle + 1, high) if ahead(left[middle], right[many - middle - 1]) else halved(low, middle)

    return halved(max(0, many - len(right)), min(many, len(left)))


def apart(ahead, left, right, parts):
    """Point 42."""
    both = len(left) + len(right)
    cuts = [(0, 0)]
    for part in range(1, parts):
        many = both * part // parts
        from_left = cut(ahead, left, right, many)
        cuts.append((from_left, many - from_left))
    cuts.append((len(left), len(right)))
    told = []
    for (one, other), (next_one, next_other) in zip(cuts, cuts[1:]):
        told.append(joined(ahead, left[one:next_one], right[other:next_other]))
    return told


def so_manieth(ahead, things, many):
    """Points 43 and 44."""
    last = many > things - 1 - many
    tree = Meeting([[place] for place in range(things)])
    end = -1 if last else 0

    def better(p, q):
        return ahead(p, q) != last

    tree.hold(better, end)
    taken = []
    for turn in range(things - 1 - many if last else many):
        place, piece = tree.went
        taken.append(place)
        piece.pop()
        tree.hold(better, end, piece)
    place = tree.went[0]
    others = [other for other in range(things) if other not in [place, *taken]]
    return (others, place, sorted(taken)) if last else (sorted(taken), place, others)
