"""Rows as texts, and sheets of rows in order."""

from sorthall.errors import NoRow
from sorthall.figures import is_written_number
from sorthall.papers import check_paper

MOST_NUMBERS = 8


def are_numbers(words):
    """Whether the words are the numbers of a thing."""
    return len(words) <= MOST_NUMBERS and all([is_written_number(word) for word in words])


def read_row(text):
    """The row of a text: a list of tuples."""
    if text == "":
        return []
    row = []
    for number, line in enumerate(text.split("\n")):
        words = line.split(" ")
        if not are_numbers(words) or row and len(words) != len(row[0]):
            raise NoRow(number)
        row.append(tuple([int(word) for word in words]))
    return row


def shown_thing(thing):
    """A thing as a line."""
    return " ".join([str(number) for number in thing])


def shown_row(row):
    """The text of a row."""
    return "\n".join([shown_thing(thing) for thing in row])


def sheet(row, paper):
    """A text with a line for each place in the paper's order: the place and its thing."""
    check_paper(paper, len(row))
    width = len(str(len(row) - 1))
    return "\n".join([str(place).rjust(width) + ": " + shown_thing(row[place]) for place in paper])
