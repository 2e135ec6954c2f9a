"""What rules tell of the pairs that stand for all, as strings of marks.

Each mark tells of the pair at the same place of PAIRS: "<" that the first text
comes first, ">" that the second one does, "=" that neither does.
"""

# By figures and by case. Where a bar of the first text decides, the mark is "b",
# where its end does "e"; "B" and "E" are those of the second text. The marks
# can be worked out anew from PAIRS, and tests/test_marks.py does.
LOOKS = {
    ("signs", "apart"): "=e<<b<<<<ee<<<<<<bb<<<<b<<<<<<<b<<<<<<<<<<<<bbbb<<<<<<<<<bb<<bbbb<<<<bbbbbb",
    ("signs", "mixed"): "=e<>b<<<<ee<<<<<<bb<<<<b<<<<<<<b<<<<<<<<<<<<bbbb<<<<<<<<<bb<<bbbb<<<<bbbbbb",
    ("signs", "together"): "=e<>b=eE<ee>bB<<<bb<<<<b<><eEeEb<<>><<><bBbBbbbb<<>>bB<<<bbbBbbbbbbBBbbbbbb",
    ("numbers", "apart"): "=e<<b<<<=<=<<<eE><E><bB=<<><<<<e<<<<>><<<<<<>><B<<<<<<>>><><<<<>><<<<<<<>>>",
    ("numbers", "mixed"): "=e<>b<<<=<=<<<eE><E<>bB=<<><<<<e<<<<>><<<<<<><>B<<<<<<>>><><<<<>><<<<<<<>>>",
    ("numbers", "together"): "=e<>b=eE=<=>bBeE><E<>bB====<>==eeEeEeE<><>Ee><>BbBbB==<bB==eEeEeE>B<b>bB<bB",
}

# The first letters that are not the same sign, for pairs that come to this look.
CAPITALS = "=====<==================<<>==<<=====================<<===<>================"

ANSWERS = {"<": -1, "=": 0, ">": 1}


def marks_of(rule):
    """Return the marks of a rule."""
    case, figures, bars, ends, turned = rule
    letters = "together" if case == "last" else case
    marks = LOOKS["signs" if figures == "signs" else "numbers", letters]
    if figures == "strict":
        marks = marks_behind(marks, LOOKS["signs", letters])
    if case == "last":
        marks = marks_behind(marks, CAPITALS)
    marks = decided(decided(marks, "b", "B", bars == "ahead"), "e", "E", ends == "first")
    return turned_round(marks) if turned == 1 else marks


def marks_behind(marks, others):
    """Return the marks, with the others where these tell that neither comes first."""
    return "".join([other if mark == "=" else mark for mark, other in zip(marks, others)])


def decided(marks, one, other, comes_first):
    """Return the marks with two of them replaced by what they tell."""
    if comes_first:
        return marks.replace(one, "<").replace(other, ">")
    return marks.replace(one, ">").replace(other, "<")


def turned_round(marks):
    """Return the marks with first and second exchanged."""
    return marks.replace("<", "b").replace(">", "<").replace("b", ">")
