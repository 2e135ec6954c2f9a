"""Telling rules apart by pairs of texts."""

from orderrules.checking import check_family, check_rule
from orderrules.errors import NotFound
from orderrules.marks import marks_of, turned_round
from orderrules.pairs import PAIRS, signs_of


def marks_of_two(one, other):
    """Return a tuple of the marks of two rules."""
    check_rule(one)
    check_rule(other)
    return (marks_of(one), marks_of(other))


def same(one, other):
    """Return True if two rules are alike."""
    marks, others = marks_of_two(one, other)
    return marks == others


def telling_pair(one, other):
    """Return a pair of plain texts that two rules compare unlike."""
    marks, others = marks_of_two(one, other)
    pair = first_unlike(marks, others)
    if pair is None:
        raise NotFound("the rules are alike")
    return pair


def first_unlike(marks, others):
    """Return the first pair with unlike marks, None if there is none."""
    if marks == others:
        return None
    for pair, this, that in zip(PAIRS, marks, others):
        if this != that:
            return pair
    return None


def classes(family):
    """Return the ascending list of the groups of rules that are alike."""
    check_family(family)
    groups = {}
    for place, rule in enumerate(family):
        groups.setdefault(marks_of(rule), []).append(place)
    return list(groups.values())


def telling_table(family):
    """Return, for each two places, the signs of a pair that tells them apart."""
    check_family(family)
    columns = [marks_of(rule) for rule in family]
    return [[least_signs(marks, others) for others in columns] for marks in columns]


def least_signs(marks, others):
    """Return the least signs of a pair with unlike marks, None if there is none."""
    pair = first_unlike(marks, others)
    return None if pair is None else signs_of(pair)


def mirrors(one, other):
    """Return True if one rule tells -1 just where the other one tells 1."""
    marks, others = marks_of_two(one, other)
    return marks == turned_round(others)


def finer(one, other):
    """Return True if the one rule tells the same wherever the other one parts."""
    marks, others = marks_of_two(one, other)
    return all([that in ("=", this) for this, that in zip(marks, others)])


def ties_alike(one, other):
    """Return True if two rules find the same pairs beside one another."""
    marks, others = marks_of_two(one, other)
    return marks.replace(">", "<") == others.replace(">", "<")
