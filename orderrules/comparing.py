"""Comparing and sorting texts by a rule."""

from orderrules.checking import check_rule, check_text, check_texts
from orderrules.keys import compare_keys, compare_texts, key_of
from orderrules.pieces import cut


def pieces_of(rule, text):
    """Return the list of the pieces of a text, by a rule."""
    check_rule(rule)
    check_text(text)
    return cut(rule[1], text)


def compare(rule, one, other):
    """Return -1 if the one text comes first, 1 if the other does, else 0."""
    check_rule(rule)
    check_text(one)
    check_text(other)
    return compare_texts(rule, one, other)


def sorted_by(rule, texts):
    """Return the list of the texts in order, steadily."""
    check_rule(rule)
    check_texts(texts)
    if rule[4] == 1:
        # Sorting backwards leaves equal items in their order, too.
        return sorted(texts, key=lambda text: key_of(rule, text), reverse=True)
    return sorted(texts, key=lambda text: key_of(rule, text))


def first_wrong(rule, texts):
    """Return the first place of a text that must come ahead of its neighbour.

    The neighbour is the text right ahead of it. Return None if there is none.
    """
    check_rule(rule)
    check_texts(texts)
    keys = [key_of(rule, text) for text in texts]
    for place in range(1, len(keys)):
        if compare_keys(rule, keys[place], keys[place - 1]) == -1:
            return place
    return None
