"""Reading rules from lists of texts."""

from orderrules.checking import check_family, check_lists, check_rule, check_texts
from orderrules.comparing import first_wrong, sorted_by


def allows(rule, texts):
    """Return True if a rule allows a list of texts."""
    return first_wrong(rule, texts) is None


def remains(family, lists):
    """Return the ascending list of the places of the rules that allow all lists."""
    return [place for place, bar in enumerate(bars(family, lists)) if bar is None]


def bars(family, lists):
    """Return, for each rule, what first_bar does."""
    check_family(family)
    check_lists(lists)
    return [first_bar(rule, lists) for rule in family]


def first_bar(rule, lists):
    """Return the place of the first list that is not allowed, and its wrong place.

    Return None if the rule allows all lists.
    """
    for place, texts in enumerate(lists):
        wrong = first_wrong(rule, texts)
        if wrong is not None:
            return (place, wrong)
    return None


def sorts_so(rule, before, after):
    """Return True if sorting the list before gives the list after."""
    check_rule(rule)
    check_texts(before)
    check_texts(after)
    return sorted_by(rule, before) == after


def sorters(family, before, after):
    """Return the ascending list of the places of the rules that sort so."""
    check_family(family)
    check_texts(before)
    check_texts(after)
    return [place for place, rule in enumerate(family) if sorted_by(rule, before) == after]
