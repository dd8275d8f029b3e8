"""Rules as texts."""

from sorthall.errors import NoRule
from sorthall.figures import is_written_number
from sorthall.rules import DOWN, UP, ChainRule, KeyRule, NearRule, RingRule, VoteRule

NEAR = "near"
RING = "ring"
VOTES_AND_BLANK = "votes "
ATS = ("0", "1", "2", "3", "4", "5", "6", "7")


def read_at(text):
    """A place at which a thing may have a number."""
    if text not in ATS:
        raise NoRule()
    return int(text)


def read_size(text):
    """A gap or a size."""
    if not is_written_number(text):
        raise NoRule()
    return int(text)


def read_single(text):
    """A part that is no votes."""
    words = text.split(" ")
    if len(words) == 2 and (words[0] == UP or words[0] == DOWN):
        return KeyRule([(read_at(words[1]), words[0])])
    if len(words) == 3 and words[0] == NEAR:
        return NearRule(read_at(words[1]), read_size(words[2]))
    if len(words) == 3 and words[0] == RING:
        return RingRule(read_at(words[1]), read_size(words[2]))
    raise NoRule()


def read_part(text):
    """A part of a rule's text."""
    if text.startswith(VOTES_AND_BLANK):
        singles = text[len(VOTES_AND_BLANK):].split(" | ")
        return VoteRule([read_single(single) for single in singles])
    return read_single(text)


def read_rule(text):
    """The rule of a text: the chain of its parts."""
    if not isinstance(text, str):
        raise NoRule()
    if text == "":
        return ChainRule([])
    return ChainRule([read_part(part) for part in text.split(", ")])
