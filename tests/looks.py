"""All that rules can tell of pairs of plain texts, found apart from the package.

A pair is described by its looks: what literal.look tells of it for signs and
for numbers, for each case, for both words of bars and of ends, and what
literal.capitals tells. What a rule tells of the pair follows from these. The
looks come from all short pairs, by trying them, and from pairs of any length,
by a walk along both texts.
"""

import functools
import itertools

import literal

PLAIN = "01AB_ab"
WORDS = list(itertools.product(("signs", "numbers"), ("apart", "mixed", "together"),
                               ("ahead", "behind"), ("first", "behind")))
PLACES = {words: place for place, words in enumerate(WORDS)}


def looks_of(one, other):
    """Return the tuple of the looks at a pair, that at the capitals last.

    The capitals count only where another look decides nothing.
    """
    looks = [literal.look(case, figures, bars, ends, one, other)
             for figures, case, bars, ends in WORDS]
    return tuple(looks) + (literal.capitals(one, other) if 0 in looks else 0,)


def told(rule, looks):
    """Return what a rule tells of a pair that has these looks."""
    case, figures, bars, ends, turned = rule
    alphabet = "together" if case == "last" else case
    order = [looks[PLACES[first, alphabet, bars, ends]]
             for first in {"signs": ["signs"], "numbers": ["numbers"],
                           "strict": ["numbers", "signs"]}[figures]]
    if case == "last":
        order.append(looks[-1])
    answer = next((look for look in order if look != 0), 0)
    return -answer if turned == 1 else answer


def keep(found, signs, one, other, looks):
    """Keep a pair, and the same pair the other way round, if it has fewer signs."""
    for pair, seen in (((one, other), looks), ((other, one), tuple(-look for look in looks))):
        if seen not in found or signs < found[seen][0]:
            found[seen] = (signs, pair)


@functools.cache
def tried(most):
    """Return a dict: for the looks at all pairs of at most so many signs, (signs, pair)."""
    found = {}
    for signs in range(most + 1):
        for row in itertools.product(PLAIN, repeat=signs):
            text = "".join(row)
            for place in range(signs // 2 + 1):
                one, other = text[:place], text[place:]
                keep(found, signs, one, other, looks_of(one, other))
    return found


def status(one, other):
    """Return all that counts of two texts that are to go on, or None if nothing is open.

    Each look that is decided, whatever follows; the figures by which one text
    is longer, as the next sign is compared with these; and whether a number is
    last, as no other one may follow.
    """
    decided = []
    for figures, case, bars, _ in WORDS:
        pieces = zip(literal.pieces(figures, one), literal.pieces(figures, other))
        answers = [literal.first_of_two(case, bars, this, that) for this, that in pieces]
        decided.append(next((answer for answer in answers if answer != 0), 0))
    if 0 not in decided:
        return None
    short = min(len(one), len(other))
    rest = (one[short:], other[short:]) if 0 in decided[:len(WORDS) // 2] else ("", "")
    number = one[-1:].isdigit()
    return (tuple(decided), literal.capitals(one, other), rest, number)


NUMBERS = ["".join(row) for many in (1, 2, 3) for row in itertools.product("01", repeat=many)]
OTHERS = list("AB_ab")


def steps(number):
    """Return the list of the pairs of pieces that may follow, one side blank at an end."""
    pieces = OTHERS if number else NUMBERS + OTHERS
    return [pair for pair in itertools.product(pieces + [""], repeat=2) if pair != ("", "")]


@functools.cache
def walked():
    """Return a dict: for the looks at all pairs of plain texts, (signs, pair).

    A pair is walked along piece by piece, those with fewer signs first. Pairs
    of one status are told alike if they go on alike: only the first goes on.
    Behind the end of one text, or when all is decided, a further sign of the
    other one tells nothing.
    """
    found = {}
    keep(found, 0, "", "", looks_of("", ""))
    seen = set()
    waiting = {0: [("", "")]}
    while waiting:
        signs = min(waiting)
        for one, other in waiting.pop(signs):
            now = status(one, other)
            if now is None or now in seen:
                continue
            seen.add(now)
            for this, that in steps(now[-1]):
                more = signs + len(this) + len(that)
                keep(found, more, one + this, other + that, looks_of(one + this, other + that))
                if this != "" and that != "":
                    waiting.setdefault(more, []).append((one + this, other + that))
    return found


def tellings(family, most=None):
    """Return a dict: for each tuple that a family can tell of a pair, the least signs.

    With most, only of pairs of at most so many signs, by trying them.
    """
    least = {}
    for looks, (signs, _) in (walked() if most is None else tried(most)).items():
        answers = tuple(told(rule, looks) for rule in family)
        least[answers] = min(signs, least.get(answers, signs))
    return least
