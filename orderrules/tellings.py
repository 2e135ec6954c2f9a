"""All that rules can tell of one pair of plain texts."""

from orderrules.checking import check_rule
from orderrules.keys import compare_texts
from orderrules.pairs import standing_pairs


def all_tellings(family):
    """Return the list of tuples (told, pair), ascending by signs.

    Told is the tuple of what the rules of the family tell of the pair, each
    stands here once, and no pair with fewer signs makes them tell the same.
    """
    found = {}
    for pair in standing_pairs():
        told = tuple([compare_texts(rule, pair[0], pair[1]) for rule in family])
        if told not in found:
            found[told] = pair
    return list(found.items())


def told_by_two(one, other):
    """Return the list of all tuples that two rules can tell of a pair."""
    check_rule(one)
    check_rule(other)
    return [told for told, _ in all_tellings([one, other])]
