"""Bounds of asks, as the document tells them."""


def putting(many):
    """Point 21."""
    return sum(number.bit_length() for number in range(1, many))


def leap(left, found):
    """Point 27, left being how many places of the order there are from first on."""
    bound = max(1, 2 * found.bit_length())
    return min(bound, found) if found == left else bound


def joined(one, other):
    """Point 28."""
    return one + other - 1 + (one + other) // 7 if one and other else 0


def blocks(order, left):
    """Point 29: the sum over all blocks but the last."""
    lengths = []
    sides = [place in left for place in order]
    for spot, side in enumerate(sides):
        if spot and side == sides[spot - 1]:
            lengths[-1] += 1
        else:
            lengths.append(1)
    return sum(length if length < 4 else 4 + max(1, 2 * (length - 4).bit_length()) for length in lengths[:-1])


def laid_pile(many, lengths):
    """Point 7: lengths are those of the stretches that a pile with least 1 lays."""
    worth = 0
    for length in lengths if len(lengths) > 1 else []:
        times = 1
        while 2 ** times * (length + 1) < 2 * many:
            times += 1
        worth += length * times
    return many - 1 + worth + worth // 7


def poured(pieces):
    """Point 38."""
    many = len(pieces)
    return many - 1 + sum(map(len, pieces)) * (many - 1).bit_length() if pieces else 0
