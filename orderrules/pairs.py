"""Pairs of texts that stand for all pairs of plain texts, of any length.

All rules compare each pair of plain texts as they do one of these pairs that
has no more signs. To see why, read two texts side by side, piece by piece,
with figures as numbers, up to the first place, if any, that parts them for
each case. Ahead of it only two kinds of places tell anything: letters alike
but for case, and numbers of like worth that are not the same signs. The first
place of a kind decides all that a further one of this kind could decide. So a
pair needs at most one of each kind, in either order, and the place that ends
it.
"""

CASE_PLACES = (("A", "a"), ("a", "A"))

# As signs these part at a figure, or, where the longer number begins with the
# shorter one, at the bar behind that. A letter behind it, against a figure,
# would decide as "1" against "01" does. For its end see NUMBER_ENDS.
NUMBER_PLACES = (("01", "1"), ("1", "01"), ("0_", "00_"), ("00_", "0_"))

# No figure stands here, as it would go on with a number ahead of it. Against a
# letter, a bar or an end it would decide as "A" does against "B", "_" or "".
ENDS = (
    ("", ""),
    ("A", "B"),
    ("B", "A"),
    ("a", "B"),
    ("B", "a"),
    ("_", "A"),
    ("A", "_"),
    ("", "A"),
    ("A", ""),
)

# Numbers whose worth may decide otherwise than their signs do, or than the bar
# or the end does that stands against the figures which only one of them has.
NUMBER_ENDS = (
    ("1", "010"),
    ("010", "1"),
    ("0", "01"),
    ("01", "0"),
    ("0_", "01"),
    ("01", "0_"),
    ("0", "00"),
    ("00", "0"),
    ("0_", "00"),
    ("00", "0_"),
)


def signs_of(pair):
    """Return the number of signs of a pair."""
    return len(pair[0]) + len(pair[1])


def joined(beginnings, endings):
    """Return the list of the pairs that each beginning and each ending make."""
    return [
        (one + one_more, other + other_more)
        for one, other in beginnings
        for one_more, other_more in endings
    ]


def standing_pairs():
    """Return the list of the pairs that stand for all, ascending by signs."""
    numberless = [("", "")] + list(CASE_PLACES)
    beginnings = (
        numberless
        + list(NUMBER_PLACES)
        + joined(CASE_PLACES, NUMBER_PLACES)
        + joined(NUMBER_PLACES, CASE_PLACES)
    )
    return sorted(joined(beginnings, ENDS) + joined(numberless, NUMBER_ENDS), key=signs_of)
