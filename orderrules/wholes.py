"""Whole numbers as arguments."""


def is_whole(value, low, high):
    """Return True if a value is an integer from low to high."""
    # Python counts True and False as integers, the document does not.
    if not isinstance(value, int) or isinstance(value, bool):
        return False
    return low <= value <= high
