"""Sorting by one rule and then, steadily, by another one."""

from orderrules.checking import check_rule, check_text
from orderrules.errors import NotFound
from orderrules.keys import compare_texts
from orderrules.marks import marks_behind, marks_of
from orderrules.rules import all_rules


def two_compare(one, other, first, second):
    """Return the comparison of two texts by sorting by one, then by the other."""
    check_rule(one)
    check_rule(other)
    check_text(first)
    check_text(second)
    told = compare_texts(other, first, second)
    if told == 0:
        return compare_texts(one, first, second)
    return told


def marks_of_both(one, other):
    """Return the marks of sorting by one rule, then by the other."""
    return marks_behind(marks_of(other), marks_of(one))


def two_same(one, other, third):
    """Return True if sorting by two compares all pairs as a third rule does."""
    check_rule(one)
    check_rule(other)
    check_rule(third)
    return marks_of_both(one, other) == marks_of(third)


def two_of(one, other):
    """Return the first of all rules that sorting by two is."""
    check_rule(one)
    check_rule(other)
    marks = marks_of_both(one, other)
    for rule in all_rules():
        if marks_of(rule) == marks:
            return rule
    raise NotFound("no rule is sorting by these two")


def hides(one, other):
    """Return True if sorting by the one, then by the other, is as by the other alone."""
    return two_same(one, other, other)
