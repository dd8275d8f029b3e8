"""The refusals of the hall, each a class of its own."""


class HallError(ValueError):
    """Any refusal."""


class NoRule(HallError):
    """What was handed in makes no rule."""


class NoPaper(HallError):
    """A list is no paper, or not as long as it must be."""


class NoPlace(HallError):
    """A number is not one of the row's."""


class NoKey(HallError):
    """A thing lacks a number that the rule looks at."""


class NoRow(HallError):
    """A text is no row; line is the number of its first wrong line."""

    def __init__(self, line):
        HallError.__init__(self, f"line {line} is no thing of the row")
        self.line = line


class NoOrder(HallError):
    """A rule is no order for a row; flaw shows it."""

    def __init__(self, flaw):
        HallError.__init__(self, f"the rule is no order for the row: {flaw!r}")
        self.flaw = flaw


class TooFar(HallError):
    """A place stands ahead of too many lesser ones; others are some of these."""

    def __init__(self, place, others):
        # An error keeps all that it was made of, the list too, until its base is given something else to keep.
        HallError.__init__(self, f"place {place} stands too far behind")
        self.place = place
        self.others = list(others)


class Spent(HallError):
    """An asker has made all asks that it may; asked is their count."""

    def __init__(self, asked):
        HallError.__init__(self, f"all asks are spent: {asked}")
        self.asked = asked
