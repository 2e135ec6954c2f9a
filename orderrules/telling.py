"""Telling rules apart by pairs of texts."""

from orderrules.checking import check_family, check_rule
from orderrules.errors import NotFound
from orderrules.pairs import signs_of
from orderrules.tellings import all_tellings, told_by_two


def same(one, other):
    """Return True if two rules are alike."""
    return all([this == that for this, that in told_by_two(one, other)])


def telling_pair(one, other):
    """Return a pair of plain texts that two rules compare unlike."""
    check_rule(one)
    check_rule(other)
    for told, pair in all_tellings([one, other]):
        if told[0] != told[1]:
            return pair
    raise NotFound("the rules are alike")


def classes(family):
    """Return the ascending list of the groups of rules that are alike."""
    check_family(family)
    tellings = all_tellings(family)
    groups = {}
    for place in range(len(family)):
        answers = tuple([told[place] for told, _ in tellings])
        groups.setdefault(answers, []).append(place)
    return list(groups.values())


def telling_table(family):
    """Return, for each two places, the signs of a pair that tells them apart."""
    check_family(family)
    tellings = all_tellings(family)
    many = len(family)
    return [[least_signs(tellings, one, other) for other in range(many)] for one in range(many)]


def least_signs(tellings, one, other):
    """Return the least signs that tell two places apart, None if nothing does."""
    for told, pair in tellings:
        if told[one] != told[other]:
            return signs_of(pair)
    return None


def mirrors(one, other):
    """Return True if one rule tells -1 just where the other one tells 1."""
    return all([this == -that for this, that in told_by_two(one, other)])


def finer(one, other):
    """Return True if the one rule tells the same wherever the other one parts."""
    return all([that == 0 or this == that for this, that in told_by_two(one, other)])


def ties_alike(one, other):
    """Return True if two rules find the same pairs beside one another."""
    return all([(this == 0) == (that == 0) for this, that in told_by_two(one, other)])
