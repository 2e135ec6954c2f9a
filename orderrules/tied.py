"""Plain texts with the same pieces as a text, and which of them come ahead of it.

Such texts are the text itself, but for the zeros ahead of its numbers, where
pieces are numbers, and the case of its letters, where only the alphabet counts.
"""

from math import comb

from orderrules.pieces import NUMBER, cut, end_rank, piece_rank


def letters_of(text):
    """Return how many signs of a text are letters."""
    return len([sign for sign in text if sign.isalpha()])


def capitals_ahead(text):
    """Return how many texts come ahead by their capitals that have the same letters but for case."""
    ahead = 0
    for sign in text:
        if sign.isalpha():
            # What is ahead goes on in two ways, a capital for a small letter comes ahead here.
            ahead = 2 * ahead + (1 if sign.islower() else 0)
    return ahead


def zeros_ahead(rule, text, length):
    """Return in how many ways zeros make a text of a length that comes ahead as signs.

    They stand ahead of the numbers of the text. The rule is taken as not turned.
    """
    numbers = numbers_of(rule, text)
    spare = length - len(text) + sum([zeros for zeros, _ in numbers])
    ahead = 0
    for place, (zeros, zero_first) in enumerate(numbers):
        # Up to here there are as many zeros as in the text, here more of them or fewer.
        later = len(numbers) - place - 1
        if zero_first:
            ahead += spread(spare - zeros - 1, later)
        else:
            ahead += spread(spare, later) - spread(spare - zeros, later)
        spare -= zeros
    return ahead


def numbers_of(rule, text):
    """Return, for each number of a text, how many zeros it could do without.

    Return with it if one zero more comes ahead of what stands behind the zeros.
    """
    case, bars, ends = rule[0], rule[2], rule[3]
    found = []
    pieces = cut("numbers", text)
    ranks = [piece_rank(case, bars, piece) for piece in pieces] + [end_rank(ends)]
    for place, piece in enumerate(pieces):
        if piece.isdigit():
            figures = piece.lstrip("0")
            zeros = len(piece) - max(1, len(figures))
            # Behind the zeros stands another figure, or, of worth 0, what follows the number.
            zero_first = figures != "" or (NUMBER, 0, 0) < ranks[place + 1]
            found.append((zeros, zero_first))
    return found


def spread(zeros, later):
    """Return in how many ways zeros are spread over a number and so many later ones."""
    return comb(zeros + later, later) if zeros >= 0 else 0
