"""Signs and texts."""

from orderrules.errors import BadNumber
from orderrules.wholes import is_whole

SIGNS = "0123456789ABCDEFGHIJKLMNOPQRSTUVWXYZ_abcdefghijklmnopqrstuvwxyz"
# Ascending as Python's strings are: plain_texts takes its order from here.
PLAIN_SIGNS = "01AB_ab"
LONGEST_TEXT = 40
LONGEST_PLAIN = 5


def is_text(value):
    """Return True if a value is a text."""
    if not isinstance(value, str) or len(value) > LONGEST_TEXT:
        return False
    return all([sign in SIGNS for sign in value])


def plain_texts(length):
    """Return the list of all plain texts of a length, ascending."""
    if not is_whole(length, 0, LONGEST_PLAIN):
        raise BadNumber("a length is an integer from 0 to 5")
    texts = [""]
    for _ in range(length):
        texts = [text + sign for text in texts for sign in PLAIN_SIGNS]
    return texts
