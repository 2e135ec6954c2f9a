"""Counting plain texts by their places beside a text, and pairs told alike."""

from orderrules.checking import check_rule, check_text
from orderrules.errors import BadNumber
from orderrules.marks import marks_of
from orderrules.shares import SHARES
from orderrules.tied import capitals_ahead, letters_of, zeros_ahead
from orderrules.walks import plain_counts, walk
from orderrules.wholes import is_whole

LONGEST_COUNTED = 20
LONGEST_PAIRED = 6


def count_ahead(rule, text, length):
    """Return how many plain texts of a length come ahead of a text."""
    check_counting(rule, text, length)
    ahead = ahead_unturned(rule, text, length)
    if rule[4] == 1:
        return plain_counts()[length] - ahead - all_beside(rule, text, length)
    return ahead


def count_beside(rule, text, length):
    """Return how many plain texts of a length are beside a text."""
    check_counting(rule, text, length)
    return all_beside(rule, text, length)


def count_same(one, other, length):
    """Return for how many pairs of plain texts of a length two rules tell the same."""
    check_rule(one)
    check_rule(other)
    check_length(length, LONGEST_PAIRED)
    marks, others = marks_of(one), marks_of(other)
    return sum([row[length] for row, this, that in zip(SHARES, marks, others) if this == that])


def check_counting(rule, text, length):
    """Raise BadRule, BadText or BadNumber if an argument is not valid."""
    check_rule(rule)
    check_text(text)
    check_length(length, LONGEST_COUNTED)


def check_length(value, longest):
    """Raise BadNumber if a value is not a length."""
    if not is_whole(value, 0, longest):
        raise BadNumber(f"a length is an integer from 0 to {longest}")


def all_beside(rule, text, length):
    """Return what count_beside does, of arguments that need no check."""
    case, figures, bars, ends, turned = rule
    # Texts are beside one another by "last" if their letters are the same signs, and
    # by "strict" if their figures are. Then all pieces are the same by these words, too:
    case = "apart" if case == "last" else case
    figures = "signs" if figures == "strict" else figures
    return walk((case, figures, bars, ends, turned), text, length)[1]


def ahead_unturned(rule, text, length):
    """Return what count_ahead does if the rule is not turned."""
    case, figures = rule[:2]
    ahead, same = walk(rule, text, length)
    if same == 0:
        return ahead
    # The same pieces are written in so many ways by the case of letters, times by zeros.
    by_case = 1 << letters_of(text) if case in ("together", "last") else 1
    by_zeros = same // by_case
    if figures == "strict":
        ahead += by_case * zeros_ahead(rule, text, length)
        by_zeros = 1 if length == len(text) else 0
    if case == "last":
        ahead += by_zeros * capitals_ahead(text)
    return ahead
