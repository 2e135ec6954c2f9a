"""Counting the plain texts of a length ahead of a text, by reading them sign by sign.

It is written apart from the package. All plain texts are read at once: of those
that go on alike it is kept only how many there are, and where they stand:

- signs: what the look with signs tells so far;
- numbers: what the look with numbers tells so far, or 0, then the place of the
  piece that comes next, and of a number that may go on how many of its figures
  count and how these compare;
- letters: what the capitals tell so far, and how many letters there were.
"""

import collections

import literal


class Reading:
    def __init__(self, rule, text):
        self.case, self.figures, self.bars, ends, self.turned = rule
        self.letters_case = "together" if self.case == "last" else self.case
        self.longer = 1 if ends == "first" else -1
        self.text = text
        self.pieces = literal.pieces("numbers", text)
        self.capitals = [sign for sign in text if sign.isalpha()]

    def piece(self, one, other):
        return literal.first_of_two(self.letters_case, self.bars, one, other)

    def signs(self, told, place, sign):
        if told != 0:
            return told
        if place >= len(self.text):
            return self.longer
        return self.piece(sign, self.text[place])

    def numbers(self, state, sign):
        told, place, number = state
        if told != 0:
            return state
        if number is not None:
            worth = self.pieces[place].lstrip("0")
            if sign.isdigit():
                return self.longer_number(place, number, worth, sign)
            told, place = self.number_ends(number, worth), place + 1
            if told != 0:
                return told, 0, None
        if place >= len(self.pieces):
            return self.longer, 0, None
        if sign.isdigit() and self.pieces[place].isdigit():
            return self.longer_number(place, (0, 0), self.pieces[place].lstrip("0"), sign)
        told = self.piece(sign, self.pieces[place])
        return (told, 0, None) if told != 0 else (0, place + 1, None)

    def longer_number(self, place, number, worth, sign):
        many, told = number
        if many == 0 and sign == "0":
            return 0, place, (0, 0)
        if many == len(worth):
            return 1, 0, None
        return 0, place, (many + 1, told or literal.sign_of(int(sign) - int(worth[many])))

    def number_ends(self, number, worth):
        many, told = number
        return -1 if many < len(worth) else told

    def letters(self, state, sign):
        told, many = state
        if not sign.isalpha() or many >= len(self.capitals):
            return state
        if told == 0 and sign != self.capitals[many]:
            told = -1 if sign.isupper() else 1
        return told, many + 1

    def step(self, state, place, sign):
        signs, numbers, letters = state
        new = (self.signs(signs, place, sign), self.numbers(numbers, sign), self.letters(letters, sign))
        decides = new[0] if self.figures == "signs" else new[1][0]
        # What decides first decides for good, the rest is the same for all.
        return (decides, (decides, 0, None), (0, 0)) if decides != 0 else new

    def end(self, state, length):
        signs, (numbers, place, number), letters = state
        if signs == 0 and length < len(self.text):
            signs = -self.longer
        if numbers == 0 and number is not None:
            numbers, place = self.number_ends(number, self.pieces[place].lstrip("0")), place + 1
        if numbers == 0 and place < len(self.pieces):
            numbers = -self.longer
        order = {"signs": [signs], "numbers": [numbers], "strict": [numbers, signs]}[self.figures]
        if self.case == "last":
            order.append(letters[0])
        told = next((told for told in order if told != 0), 0)
        return -told if self.turned == 1 else told


def counts(rule, text, length):
    """Return the numbers of the plain texts of a length that come ahead, beside, behind."""
    reading = Reading(rule, text)
    now = {(0, (0, 0, None), (0, 0)): 1}
    for place in range(length):
        after = collections.Counter()
        for state, many in now.items():
            for sign in "01AB_ab":
                after[reading.step(state, place, sign)] += many
        now = after
    found = collections.Counter()
    for state, many in now.items():
        found[reading.end(state, length)] += many
    return found[-1], found[0], found[1]
