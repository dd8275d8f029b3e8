"""Picks: the place ahead of which just so many places stand."""

from sorthall.errors import NoPlace
from sorthall.pours import LastPour, Pour


def so_manieth(asker, many):
    """The so-manieth of the row: (places ahead of it, the place, places behind it)."""
    things = asker.many()
    if many < 0 or many >= things:
        raise NoPlace()
    singly = [[place] for place in range(things)]
    # The pour begins at the end that is nearer, so that fewer places are taken.
    from_behind = many > things - 1 - many
    pour = LastPour(asker, singly) if from_behind else Pour(asker, singly)
    taken = sorted([pour.take() for turn in range(min(many, things - 1 - many))])
    place = pour.first()
    rest = [other for other in range(things) if other != place and other not in taken]
    return (rest, place, taken) if from_behind else (taken, place, rest)
