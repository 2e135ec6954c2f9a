"""Pairs of texts that stand for all pairs of plain texts, of any length.

All rules compare each pair of plain texts as they do one of these pairs that
has no more signs, or as they do one the other way round. To see why, read two
texts side by side, piece by piece, with figures as numbers, up to the first
place, if any, that parts them for each case. Ahead of it only two kinds of
places tell anything: letters alike but for case, and numbers of like worth
that are not the same signs. The first place of a kind decides all that a
further one of this kind could decide. So a pair needs at most one of each
kind, in either order, and the place that ends it.

As signs, numbers of like worth part at a figure ("01" and "1"), or, where the
longer one begins with the shorter one, at what stands behind that: at a bar
("0_" and "00_") or at the end ("0" and "00"). A letter there, against a figure,
decides as "1" against "01" does.

Of the pairs that all rules compare alike one with as few signs as can be
stands here, the other ones do not. tests/looks.py finds them anew, by a walk
along pairs of any length.
"""

# Ascending by signs. The text that P of the document puts first stands first.
PAIRS = (
    ("", ""), ("", "A"), ("A", "B"), ("B", "a"), ("_", "A"), ("A", "a"), ("A", "aA"),
    ("AA", "a"), ("01", "1"), ("0", "01"), ("0", "00"), ("AB", "aA"), ("A_", "aA"),
    ("AA", "a_"), ("01", "1A"), ("01A", "1"), ("010", "1"), ("0_", "01"), ("0_", "00"),
    ("01a", "1B"), ("01B", "1a"), ("01_", "1A"), ("01A", "1_"), ("0_", "00_"), ("A01", "a1"),
    ("A1", "a01"), ("01a", "1A"), ("A0", "a01"), ("A01", "a0"), ("A0", "a00"), ("A00", "a0"),
    ("0_", "00_A"), ("A01", "a1A"), ("A01A", "a1"), ("A1", "a01A"), ("A1A", "a01"),
    ("01a", "1AA"), ("01aA", "1A"), ("A1", "a010"), ("A010", "a1"), ("A0_", "a01"),
    ("A01", "a0_"), ("A0_", "a00"), ("A00", "a0_"), ("0_B", "00_A"), ("0_a", "00_B"),
    ("0_B", "00_a"), ("0_A", "00__"), ("A01_", "a1A"), ("A01A", "a1_"), ("A1_", "a01A"),
    ("A1A", "a01_"), ("A0_", "a00_"), ("A00_", "a0_"), ("01aA", "1AB"), ("01a_", "1AA"),
    ("01aA", "1A_"), ("0_A", "00_a"), ("0_a", "00_A"), ("A0_", "a00_A"), ("A00_A", "a0_"),
    ("0_A", "00_aA"), ("0_AA", "00_a"), ("0_a", "00_AA"), ("0_aA", "00_A"), ("A0_B", "a00_A"),
    ("A0_A", "a00__"), ("A00_A", "a0_B"), ("A00__", "a0_A"), ("0_AB", "00_aA"),
    ("0_A_", "00_aA"), ("0_AA", "00_a_"), ("0_aA", "00_AB"), ("0_a_", "00_AA"),
    ("0_aA", "00_A_"),
)


def signs_of(pair):
    """Return the number of signs of a pair."""
    return len(pair[0]) + len(pair[1])
