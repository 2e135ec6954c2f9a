"""Rules: tuples (case, figures, bars, ends, turned)."""

from orderrules.wholes import is_whole

# The words stand in the order in which all_rules takes them.
CASES = ("apart", "mixed", "together", "last")
FIGURES = ("signs", "numbers", "strict")
BARS = ("ahead", "behind")
ENDS = ("first", "behind")


def is_word(value, words):
    """Return True if a value is one of the words."""
    return isinstance(value, str) and value in words


def is_rule(value):
    """Return True if a value is a rule."""
    if not isinstance(value, tuple) or len(value) != 5:
        return False
    case, figures, bars, ends, turned = value
    if not is_word(case, CASES) or not is_word(figures, FIGURES):
        return False
    if not is_word(bars, BARS) or not is_word(ends, ENDS):
        return False
    return is_whole(turned, 0, 1)


def all_rules():
    """Return the list of all rules, in the order of their words."""
    return [
        (case, figures, bars, ends, turned)
        for case in CASES
        for figures in FIGURES
        for bars in BARS
        for ends in ENDS
        for turned in range(2)
    ]
