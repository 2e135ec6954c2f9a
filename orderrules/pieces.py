"""The pieces of a text, and their ranks."""

# The ranks of two pieces are tuples of three integers. They are equal where
# the pieces are the same, and the lower one is that of the piece that comes
# first. The end of a text has a rank, too, for it stands ahead of all pieces
# or behind them all, the bar included. The first integer is one of these:
END_FIRST = 0
BAR_AHEAD = 1
NUMBER = 2
LETTER = 3
BAR_BEHIND = 4
END_BEHIND = 5


def cut(figures, text):
    """Return the list of the pieces of a text."""
    if figures == "signs":
        return list(text)
    pieces = []
    for sign in text:
        if sign.isdigit() and pieces and pieces[-1].isdigit():
            pieces[-1] += sign
        else:
            pieces.append(sign)
    return pieces


def piece_rank(case, bars, piece):
    """Return the rank of a piece."""
    if piece == "_":
        return (BAR_AHEAD if bars == "ahead" else BAR_BEHIND, 0, 0)
    if piece.isdigit():
        return (NUMBER, int(piece), 0)
    return letter_rank(case, piece)


def letter_rank(case, letter):
    """Return the rank of a letter."""
    small = 1 if letter.islower() else 0
    place = ord(letter.lower())
    if case == "apart":
        return (LETTER, small, place)
    if case == "mixed":
        return (LETTER, place, small)
    return (LETTER, place, 0)


def end_rank(ends):
    """Return the rank of the end of a text."""
    return (END_FIRST if ends == "first" else END_BEHIND, 0, 0)
