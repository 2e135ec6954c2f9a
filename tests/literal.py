"""Comparing by the very words of points 3 to 5, step by step.

It is written apart from the package, and without keys, so that the two can be
held against one another.
"""

import re

APART = "ABCDEFGHIJKLMNOPQRSTUVWXYZabcdefghijklmnopqrstuvwxyz"
MIXED = "AaBbCcDdEeFfGgHhIiJjKkLlMmNnOoPpQqRrSsTtUuVvWwXxYyZz"


def pieces(figures, text):
    return re.findall("." if figures == "signs" else "[0-9]+|.", text)


def first_of_two(case, bars, one, other):
    """Return -1, 1, or 0 if two pieces are the same."""
    if one == "_" or other == "_":
        if one == other:
            return 0
        return -1 if (one == "_") == (bars == "ahead") else 1
    if one[0].isdigit() != other[0].isdigit():
        return -1 if one[0].isdigit() else 1
    if one[0].isdigit():
        return sign_of(int(one) - int(other))
    if case == "apart":
        return sign_of(APART.index(one) - APART.index(other))
    if case == "mixed":
        return sign_of(MIXED.index(one) - MIXED.index(other))
    return sign_of(MIXED.index(one) // 2 - MIXED.index(other) // 2)


def sign_of(number):
    return (number > 0) - (number < 0)


def look(case, figures, bars, ends, one, other):
    these, those = pieces(figures, one), pieces(figures, other)
    for this, that in zip(these, those):
        told = first_of_two(case, bars, this, that)
        if told != 0:
            return told
    shorter = sign_of(len(these) - len(those))
    return shorter if ends == "first" else -shorter


def capitals(one, other):
    these = [sign for sign in one if sign in APART]
    those = [sign for sign in other if sign in APART]
    for this, that in zip(these, those):
        if this != that:
            return -1 if this.isupper() else 1
    return 0


def compare(rule, one, other):
    case, figures, bars, ends, turned = rule
    told = look(case, figures, bars, ends, one, other)
    if told == 0 and figures == "strict":
        again = "together" if case == "last" else case
        told = look(again, "signs", bars, ends, one, other)
    if told == 0 and case == "last":
        told = capitals(one, other)
    return -told if turned == 1 else told
