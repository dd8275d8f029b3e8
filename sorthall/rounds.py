"""Rounds: neighbouring pieces are poured together, round by round, until one is left."""

from sorthall.piles import by_pile
from sorthall.pours import poured


def one_round(asker, pieces, mouths):
    """The next round's pieces: so many at a time poured together, from the left on."""
    return [poured(asker, pieces[first:first + mouths]) for first in range(0, len(pieces), mouths)]


def in_rounds(asker, pieces, mouths=2):
    """The one list that is left, and the numbers of pieces behind each round."""
    coming = [list(piece) for piece in pieces]
    numbers = []
    while len(coming) > 1:
        coming = one_round(asker, coming, mouths)
        numbers.append(len(coming))
    return (coming[0] if coming else [], numbers)


def by_pieces(asker, wide, mouths=2, least=1):
    """The row's paper: pieces of so many places, each put in order by a pile, then poured in rounds."""
    many = asker.many()
    pieces = [by_pile(asker, least, (first, min(first + wide, many))) for first in range(0, many, wide)]
    return in_rounds(asker, pieces, mouths)[0]
