"""Counting pairs of plain texts of one length by what all rules tell of them.

It is written apart from the package: a walk along both texts, piece by piece,
that counts the pairs for each of the looks that tests/looks.py describes.
"""

import collections
import functools
import itertools

import literal
import looks


def free(signs, number):
    """Return in how many ways a text goes on by so many signs, behind a number or not."""
    if signs > 0 and number:
        return 5 * 7 ** (signs - 1)
    return 7 ** signs


def kind(one, other):
    """Return all that counts of two numbers, but for their lengths."""
    signs = [literal.sign_of(ord(this) - ord(that)) for this, that in zip(one, other)]
    return (literal.sign_of(int(one) - int(other)), next((sign for sign in signs if sign != 0), 0),
            literal.sign_of(len(one) - len(other)))


@functools.cache
def numbers(longest):
    """Return a dict: for each kind, (two numbers of it, a dict: how many by their lengths)."""
    rows = [list(itertools.product("01", repeat=many)) for many in range(1, longest + 1)]
    rows = ["".join(row) for row in itertools.chain(*rows)]
    found = {}
    for one, other in itertools.product(rows, repeat=2):
        _, many = found.setdefault(kind(one, other), ((one, other), collections.Counter()))
        many[len(one), len(other)] += 1
    return found


@functools.cache
def step(status, pair, pieces):
    """Return the status behind two more pieces, None if all is decided, and the pair."""
    after = (pair[0] + pieces[0], pair[1] + pieces[1])
    return looks.status(*after), after


@functools.cache
def seen(status, pair, rests):
    """Return the looks at a pair if these rests follow."""
    return looks.looks_of(pair[0] + rests[0], pair[1] + rests[1])


def count(longest):
    """Return the list, for each length from 0 on, of a Counter: the pairs for each looks."""
    found = [collections.Counter() for _ in range(longest + 1)]
    pairs = {looks.status("", ""): ("", "")}
    waiting = [collections.Counter() for _ in range(2 * longest + 1)]
    waiting[0][looks.status("", ""), 0, 0] = 1
    for now in waiting:
        for (status, one, other), many in now.items():
            count_ends(found, status, pairs[status], one, other, many)
            for pieces, (more, rest), ways in steps(status[-1], longest - one, longest - other):
                after, pair = step(status, pairs[status], pieces)
                at = (one + more, other + rest)
                if after is None:
                    told = seen(status, pairs[status], pieces)
                    both = pieces[0].isdigit() and pieces[1].isdigit()
                    for length in range(max(at), longest + 1):
                        found[length][told] += many * ways * free(length - at[0], both) * free(length - at[1], both)
                else:
                    pairs.setdefault(after, pair)
                    waiting[sum(at)][(after,) + at] += many * ways
    return found


def count_ends(found, status, pair, one, other, many):
    """Count the pairs one text of which ends here, or both."""
    signs = looks.OTHERS if status[-1] else looks.PLAIN
    for length in range(max(one, other), len(found)):
        if one == other == length:
            found[length][seen(status, pair, ("", ""))] += many
        elif one == length:
            for sign in signs:
                found[length][seen(status, pair, ("", sign))] += many * free(length - other - 1, False)
        elif other == length:
            for sign in signs:
                found[length][seen(status, pair, (sign, ""))] += many * free(length - one - 1, False)


def steps(number, one, other):
    """Return a list of tuples (two pieces, their lengths, how many there are such).

    Of a number beside another piece its first figure stands here, what follows
    is free.
    """
    found = []
    if one > 0 and other > 0:
        single = looks.OTHERS if number else list("01") + looks.OTHERS
        for pieces in itertools.product(single, repeat=2):
            if not (pieces[0].isdigit() and pieces[1].isdigit()):
                found.append((pieces, (1, 1), 1))
    if not number:
        for pieces, many in numbers(6).values():
            found += [(pieces, lengths, ways) for lengths, ways in many.items()
                      if lengths[0] <= one and lengths[1] <= other]
    return found
