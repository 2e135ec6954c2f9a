"""Sorting by one rule and then, steadily, by another one."""

from orderrules.checking import check_rule, check_text
from orderrules.errors import NotFound
from orderrules.keys import compare_texts
from orderrules.pairs import standing_pairs
from orderrules.rules import all_rules


def two_compare(one, other, first, second):
    """Return the comparison of two texts by sorting by one, then by the other."""
    check_rule(one)
    check_rule(other)
    check_text(first)
    check_text(second)
    return compare_by_two(one, other, first, second)


def compare_by_two(one, other, first, second):
    """Return what two_compare does, of arguments that need no check."""
    told = compare_texts(other, first, second)
    if told == 0:
        return compare_texts(one, first, second)
    return told


def two_same(one, other, third):
    """Return True if sorting by two compares all pairs as a third rule does."""
    check_rule(one)
    check_rule(other)
    check_rule(third)
    return tells_all(third, told_pairs(one, other))


def two_of(one, other):
    """Return the first of all rules that sorting by two is."""
    check_rule(one)
    check_rule(other)
    told = told_pairs(one, other)
    for rule in all_rules():
        if tells_all(rule, told):
            return rule
    raise NotFound("no rule is sorting by these two")


def told_pairs(one, other):
    """Return the list of tuples (comparison, pair) of sorting by two."""
    return [(compare_by_two(one, other, pair[0], pair[1]), pair) for pair in standing_pairs()]


def tells_all(rule, told):
    """Return True if a rule compares all pairs as was told."""
    for answer, pair in told:
        if compare_texts(rule, pair[0], pair[1]) != answer:
            return False
    return True


def hides(one, other):
    """Return True if sorting by the one, then by the other, is as by the other alone."""
    return two_same(one, other, other)
