"""Rules written as texts."""

from orderrules.checking import check_rule
from orderrules.errors import BadText
from orderrules.rules import is_rule


def format_rule(rule):
    """Return the items of a rule, separated by single spaces."""
    check_rule(rule)
    case, figures, bars, ends, turned = rule
    return f"{case} {figures} {bars} {ends} {turned}"


def parse_rule(text):
    """Return the rule that format_rule writes so."""
    if isinstance(text, str):
        words = text.split(" ")
        rule = tuple(words[:-1]) + (1 if words[-1] == "1" else 0,)
        # The last word may still be another one, which would be taken for 0.
        if is_rule(rule) and format_rule(rule) == text:
            return rule
    raise BadText("this is not the form of a rule")
