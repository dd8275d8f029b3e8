"""Flaws: whether a rule is an order for a row, and what shows that it is none."""

from sorthall.papers import straight


def told_pairs(row, rule):
    """For each place a list that tells for each place whether the former's thing is put before the latter's."""
    return [[rule.before(x, y) for y in row] for x in row]


def counted_ranks(pairs):
    """For each place the number of the places whose things are put before its thing."""
    places = straight(len(pairs))
    return [len([p for p in places if pairs[p][q]]) for q in places]


def are_ranks(pairs, ranks):
    """Whether of any two places the one goes before the other just where its rank is less."""
    for p, told in enumerate(pairs):
        for q, said in enumerate(told):
            if said != (ranks[p] < ranks[q]):
                return False
    return True


def odd_thirds(pairs, p, q):
    """The places whose things are neither behind p's nor before q's, p's being put before q's."""
    # p and q are never among them: of both it is asked whether p's thing is put before q's.
    return [r for r in straight(len(pairs)) if not pairs[p][r] and not pairs[r][q]]


def flaw_of_two(pairs, p, q):
    """A flaw that two places show, p's thing being put before q's; None where they show none."""
    if p == q:
        return ("flaw", "self", (p, p, p))
    if pairs[q][p]:
        return ("flaw", "both", (p, q, p))
    thirds = odd_thirds(pairs, p, q)
    return ("flaw", "tie", (p, q, thirds[0])) if thirds else None


def flaw_of(pairs):
    """A flaw of what the rule told; None where it is an order."""
    for p, told in enumerate(pairs):
        for q, said in enumerate(told):
            found = flaw_of_two(pairs, p, q) if said else None
            if found is not None:
                return found
    return None


def ranked(row, rule):
    """Either ("ranks", list) or ("flaw", word, places)."""
    pairs = told_pairs(row, rule)
    ranks = counted_ranks(pairs)
    if are_ranks(pairs, ranks):
        return ("ranks", ranks)
    return flaw_of(pairs)
