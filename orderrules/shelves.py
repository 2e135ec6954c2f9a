"""Shelves, which keep texts in order."""

from orderrules.checking import check_rule, check_text
from orderrules.errors import BadNumber, NotFound
from orderrules.keys import compare_keys, key_of

MOST_KEPT = 100


class Shelf:
    """Texts in the order of a rule, those beside one another as they were put."""

    def __init__(self, rule):
        check_rule(rule)
        self._rule = rule
        self._texts = []
        # The key of each text, at the same place.
        self._keys = []
        # The place that each text was put at, in the order in which they were
        # put. The last one is where that text still is.
        self._places = []

    def put(self, text):
        """Put a text behind all that are beside it or come ahead of it, return its place."""
        check_text(text)
        if len(self._texts) >= MOST_KEPT:
            raise BadNumber("a shelf keeps at most 100 texts")
        key = key_of(self._rule, text)
        place = self._place_behind(key)
        self._texts.insert(place, text)
        self._keys.insert(place, key)
        self._places.append(place)
        return place

    def _place_behind(self, key):
        """Return how many texts come ahead of one with this key or are beside it."""
        low = 0
        high = len(self._keys)
        while low < high:
            middle = (low + high) // 2
            if compare_keys(self._rule, key, self._keys[middle]) == -1:
                high = middle
            else:
                low = middle + 1
        return low

    def texts(self):
        """Return the list of the texts, in order."""
        return list(self._texts)

    def place(self, text):
        """Return the first place of a text that is the same text."""
        check_text(text)
        if text not in self._texts:
            raise NotFound("the text is not on the shelf")
        return self._texts.index(text)

    def beside(self, text):
        """Return the list of the texts that are beside a text, in order."""
        check_text(text)
        key = key_of(self._rule, text)
        return [kept for kept, kept_key in zip(self._texts, self._keys) if kept_key == key]

    def undo(self):
        """Take away the text that was put last, and return it."""
        if not self._places:
            raise NotFound("there is no text on the shelf")
        place = self._places.pop()
        self._keys.pop(place)
        return self._texts.pop(place)

    def __len__(self):
        return len(self._texts)
