"""Unlike texts that a rule cannot part."""

from orderrules.checking import check_rule
from orderrules.errors import NotFound
from orderrules.marks import marks_of
from orderrules.pairs import PAIRS


def parts_all(rule):
    """Return True if no two unlike texts are beside one another."""
    check_rule(rule)
    return first_tied_place(rule) == -1


def first_tie(rule):
    """Return a pair of two unlike plain texts that are beside one another."""
    check_rule(rule)
    place = first_tied_place(rule)
    if place == -1:
        raise NotFound("the rule parts all unlike texts")
    return PAIRS[place]


def first_tied_place(rule):
    """Return the first place of PAIRS with a tie, -1 if there is none."""
    # The first pair is that of the blank text with itself. It stands for all
    # pairs of like texts, and for no other one, as some rules part all others.
    return marks_of(rule).find("=", 1)
