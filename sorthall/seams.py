"""Seams: the grade of the seam between two neighbouring stretches."""


def grade(many, first, middle, beyond):
    """The least p from 1 on at which the middles of both stretches part, in halves, quarters, eighths of the row."""
    lower = 2 * (first + middle)
    upper = 2 * (middle + beyond)
    found = 1
    while lower // (2 * many) == upper // (2 * many):
        lower = 2 * lower
        upper = 2 * upper
        found += 1
    return found
