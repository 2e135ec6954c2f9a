"""Checks of arguments that several files need."""

from orderrules.errors import BadRule, BadText
from orderrules.rules import is_rule
from orderrules.signs import is_text

MOST_TEXTS = 12
MOST_RULES = 8
MOST_LISTS = 20


def check_rule(value):
    """Raise BadRule if a value is not a rule."""
    if not is_rule(value):
        raise BadRule("this is not a rule")


def check_text(value):
    """Raise BadText if a value is not a text."""
    if not is_text(value):
        raise BadText("this is not a text")


def check_texts(value):
    """Raise BadText if a value is not a list of texts."""
    if not isinstance(value, list) or not 1 <= len(value) <= MOST_TEXTS:
        raise BadText("a list of texts has 1 to 12 texts")
    for text in value:
        check_text(text)


def check_family(value):
    """Raise BadRule if a value is not a family of rules."""
    if not isinstance(value, list) or not 1 <= len(value) <= MOST_RULES:
        raise BadRule("a family is a list of 1 to 8 rules")
    for rule in value:
        check_rule(rule)


def check_lists(value):
    """Raise BadText if a value is not a list of lists of texts."""
    if not isinstance(value, list) or not 1 <= len(value) <= MOST_LISTS:
        raise BadText("there are 1 to 20 lists of texts")
    for texts in value:
        check_texts(texts)
