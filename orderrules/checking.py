"""Checks of arguments that several files need."""

from orderrules.errors import BadRule, BadText
from orderrules.rules import is_rule
from orderrules.signs import is_text

MOST_TEXTS = 12


def check_rule(value):
    """Raise BadRule if a value is not a rule."""
    if not is_rule(value):
        raise BadRule("this is not a rule")


def check_text(value):
    """Raise BadText if a value is not a text."""
    if not is_text(value):
        raise BadText("this is not a text")


def check_texts(value):
    """Raise BadText if a value is not a list of texts."""
    if not isinstance(value, list) or not 1 <= len(value) <= MOST_TEXTS:
        raise BadText("a list of texts has 1 to 12 texts")
    for text in value:
        check_text(text)
