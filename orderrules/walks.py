"""Counting plain texts piece by piece, along the pieces of a text.

Here lists tell, for each number of signs from 0 to a length, of how many texts
or beginnings of texts there are with so many signs.
"""

from orderrules.pieces import cut, piece_rank
from orderrules.signs import PLAIN_SIGNS

# The figures stand ahead in PLAIN_SIGNS.
PLAIN_FIGURES = 2


def plain_counts():
    """Return the list of the numbers of plain texts of 0 to 20 signs."""
    return [len(PLAIN_SIGNS) ** signs for signs in range(21)]


def walk(rule, text, length):
    """Return how many plain texts of a length come ahead of a text by their pieces.

    Return with it how many have all the same pieces. Only the first look of the
    rule counts, as if it were not turned: for "strict" that with numbers, for
    "last" that by the alphabet alone.
    """
    case, figures, bars, ends, _ = rule
    ranks = [piece_rank(case, bars, sign) for sign in PLAIN_SIGNS]
    others = ranks[PLAIN_FIGURES:]
    ahead = 0
    # The beginnings that have the same pieces as the text so far, and what may
    # come behind them: a figure would make a number longer.
    same = [1] + [0] * length
    following = ranks
    for piece in cut(figures, text):
        if not any(same):
            break
        if ends == "first":
            ahead += same[length]
        rank = piece_rank(case, bars, piece)
        if figures != "signs" and piece.isdigit():
            ahead += gone_on(same, begun_with(many_below(others, rank), length))
            ahead += gone_on(same, begun_below(piece, length))
            same = same_with_number(same, piece)
            following = others
        else:
            ahead += gone_on(same, begun_with(many_below(following, rank), length))
            same = same_with_sign(same, following.count(rank))
            following = ranks
    if ends == "behind":
        ahead += gone_on(same, begun_with(len(following), length))
    return (ahead, same[length])


def many_below(ranks, rank):
    """Return how many of the ranks are lower than a rank."""
    return len([1 for other in ranks if other < rank])


def gone_on(beginnings, rests):
    """Return how many texts of the whole length the beginnings and rests make."""
    return sum([many * ways for many, ways in zip(beginnings, rests[::-1])])


def begun_with(signs, length):
    """Return the list of the numbers of texts that begin with one of so many signs."""
    return [0] + [signs * many for many in plain_counts()[:length]]


def begun_below(number, length):
    """Return the list of the numbers of texts that begin with a number of less worth."""
    figures = number.lstrip("0")
    below, _ = rows_beside(figures)
    alone = [0]
    for signs in range(1, length + 1):
        # With fewer figures it is less, with more it must have zeros ahead.
        alone.append(1 << signs if signs < len(figures) else below)
    begun = [0]
    for shorter, longer in zip(alone, alone[1:]):
        # A sign put behind a text leaves the number with which it begins, unless
        # the number is the whole text and the sign is a figure.
        begun.append(len(PLAIN_SIGNS) * begun[-1] - PLAIN_FIGURES * shorter + longer)
    return begun


def rows_beside(figures):
    """Return how many rows of just as many plain figures have less worth.

    Return with it how many have the same worth, which is 1 or 0.
    """
    below, same = 0, 1
    for figure in figures:
        below = PLAIN_FIGURES * below + same * min(int(figure), PLAIN_FIGURES)
        same = same if int(figure) < PLAIN_FIGURES else 0
    return (below, same)


def same_with_number(beginnings, number):
    """Return the list of the beginnings with one more piece, the same number."""
    figures = number.lstrip("0")
    _, plain = rows_beside(figures)
    least = max(1, len(figures))
    longer = [0] * len(beginnings)
    many = 0
    for signs in range(least, len(beginnings)):
        # Zeros fill what a shorter beginning leaves.
        many += beginnings[signs - least]
        longer[signs] = plain * many
    return longer


def same_with_sign(beginnings, signs):
    """Return the list of the beginnings with one more piece, one of so many signs."""
    return [0] + [signs * many for many in beginnings[:-1]]
