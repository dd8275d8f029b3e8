"""Cuts: where two orders are to be cut, so that they can be joined part by part."""

from sorthall.joins import joined


def cut_of_two(asker, left, right, many):
    """How many of left's places are among the many foremost ones of both."""
    low = max(0, many - len(right))
    high = min(many, len(left))
    while low < high:
        middle = (low + high) // 2
        if asker.ahead(left[middle], right[many - middle - 1]):
            low = middle + 1
        else:
            high = middle
    return low


def joined_apart(asker, left, right, parts):
    """The joined list in so many parts, each joined by itself."""
    both = len(left) + len(right)
    ends = [both * part // parts for part in range(parts + 1)]
    cuts = [0] + [cut_of_two(asker, left, right, end) for end in ends[1:parts]] + [len(left)]
    others = [end - cut for end, cut in zip(ends, cuts)]
    return [
        joined(asker, left[cuts[part]:cuts[part + 1]], right[others[part]:others[part + 1]])
        for part in range(parts)
    ]
