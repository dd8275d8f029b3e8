"""Papers: lists of places that say how a row is to be laid."""

from sorthall.errors import NoPaper


def straight(many):
    """The paper that leaves a row of so many things as it is."""
    return list(range(many))


def is_number(some):
    """Whether it is a whole number; a truth is none, though Python counts it among them."""
    return isinstance(some, int) and not isinstance(some, bool)


def is_paper(some):
    """Whether a list has each number from 0 to its length less 1 just once."""
    if not isinstance(some, list) or not all([is_number(number) for number in some]):
        return False
    return sorted(some) == straight(len(some))


def check_paper(some, many):
    """Refuse what is no paper of so many places."""
    if not is_paper(some) or len(some) != many:
        raise NoPaper()


def laid(row, paper):
    """The row's things in the paper's order."""
    check_paper(paper, len(row))
    return [row[place] for place in paper]


def back(paper):
    """The paper that undoes a paper: where in it each place stands."""
    check_paper(paper, len(paper))
    spots = straight(len(paper))
    for spot, place in enumerate(paper):
        spots[place] = spot
    return spots


def behind(first, second):
    """The one paper that lays as the first and then the second do."""
    check_paper(first, len(first))
    return laid(first, second)


def agrees(paper, answers):
    """Whether in the paper each later place comes ahead of its earlier one just if the answer said so."""
    spots = back(paper)
    return all([(spots[later] < spots[earlier]) == said for later, earlier, said in answers])


def shows(paper, answers):
    """Whether the paper agrees with the answers and no other paper as long does."""
    if not agrees(paper, answers):
        return False
    asked = dict([((later, earlier), True) for later, earlier, said in answers])
    # Two neighbours that were never asked about could change places, and all answers would still hold.
    return all([(max(pair), min(pair)) in asked for pair in zip(paper, paper[1:])])
