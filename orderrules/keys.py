"""Keys: what a rule sees of a text, as lists that Python can compare."""

from orderrules.pieces import cut, end_rank, piece_rank


def look_key(case, figures, bars, ends, text):
    """Return the ranks of all pieces of a text, and that of its end."""
    ranks = [piece_rank(case, bars, piece) for piece in cut(figures, text)]
    return ranks + [end_rank(ends)]


def letters_key(text):
    """Return the letters of a text.

    Two texts come to this look only if their letters are alike but for
    capitals. Then Python's order of strings puts the capital first.
    """
    return [sign for sign in text if sign.isalpha()]


def key_of(rule, text):
    """Return the list of the looks of a rule, as if it were not turned.

    A further look counts only where all those ahead of it are equal, just as
    lists are compared.
    """
    case, figures, bars, ends, _ = rule
    looks = [look_key(case, figures, bars, ends, text)]
    if figures == "strict":
        # Case "last" has the ranks of "together": its capitals decide behind.
        looks.append(look_key(case, "signs", bars, ends, text))
    if case == "last":
        looks.append(letters_key(text))
    return looks


def compare_keys(rule, one, other):
    """Return the comparison of two texts whose keys by a rule are given."""
    if one == other:
        return 0
    told = -1 if one < other else 1
    return -told if rule[4] == 1 else told


def compare_texts(rule, one, other):
    """Return the comparison of two texts that need no check."""
    return compare_keys(rule, key_of(rule, one), key_of(rule, other))
