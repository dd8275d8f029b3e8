"""Stretches: parts of a row that rise or fall already."""


def stretch_from(asker, first, end=None):
    """The stretch that begins at first and ends ahead of the end: (beyond, falling)."""
    stop = asker.many() if end is None else end
    beyond = first + 1
    if beyond >= stop:
        return (beyond, False)
    falling = asker.ahead(beyond, first)
    beyond += 1
    while beyond < stop and asker.ahead(beyond, beyond - 1) == falling:
        beyond += 1
    return (beyond, falling)


def in_turn(first, beyond, falling):
    """The places of a stretch in order."""
    places = list(range(first, beyond))
    if falling:
        places.reverse()
    return places


def stretches(asker):
    """All stretches of the row: tuples (first, beyond, falling)."""
    found = []
    first = 0
    while first < asker.many():
        part = stretch_from(asker, first)
        found.append((first, part[0], part[1]))
        first = part[0]
    return found
