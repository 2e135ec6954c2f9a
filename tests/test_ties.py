"""The interface of ties.py: unlike texts that a rule cannot part."""

import itertools
import unittest

import literal
import looks
from orderrules.errors import BadRule, NotFound
from orderrules.rules import all_rules
from orderrules.signs import plain_texts
from orderrules.ties import first_tie, parts_all
from samples import P, Q, WRONG_RULES, rule

RULES = all_rules()


def short_pairs(most):
    """Return the list of all pairs of unlike plain texts of at most so many signs, ascending by signs."""
    found = []
    for signs in range(most + 1):
        for row in itertools.product(looks.PLAIN, repeat=signs):
            text = "".join(row)
            found += [(text[:place], text[place:]) for place in range(signs + 1)]
    return [pair for pair in found if pair[0] != pair[1]]


PAIRS = short_pairs(4)


class PartsAll(unittest.TestCase):
    def test_example(self):
        self.assertIs(parts_all(P), True)

    def test_by_hand(self):
        self.assertIs(parts_all(Q), False)
        self.assertIs(parts_all(rule("mixed")), True)
        self.assertIs(parts_all(rule("last")), True)
        self.assertIs(parts_all(rule("together")), False)
        self.assertIs(parts_all(rule("together", "strict")), False)
        self.assertIs(parts_all(rule("last", "strict", "behind", "behind", 1)), True)
        self.assertIs(parts_all(rule("apart", "numbers", turned=1)), False)

    def test_against_trying_all_short_pairs(self):
        for each in RULES:
            tied = any(literal.compare(each, one, other) == 0 for one, other in PAIRS)
            self.assertIs(parts_all(each), not tied)

    def test_against_all_pairs_of_any_length(self):
        # Pairs that all rules tell beside one another are pairs of like texts: P tells all others apart.
        for each in RULES:
            tied = any(looks.told(each, seen) == 0 for seen in looks.walked() if looks.told(P, seen) != 0)
            self.assertIs(parts_all(each), not tied)
        for one, other in PAIRS:
            self.assertNotEqual(literal.compare(P, one, other), 0)


class FirstTie(unittest.TestCase):
    def test_all_rules(self):
        for each in RULES:
            with self.subTest(rule=each):
                if parts_all(each):
                    self.assertRaises(NotFound, first_tie, each)
                    continue
                pair = first_tie(each)
                self.assertIs(type(pair), tuple)
                one, other = pair
                self.assertNotEqual(one, other)
                self.assertLessEqual(set(one + other), set(looks.PLAIN))
                self.assertEqual(literal.compare(each, one, other), 0)
                shorter = [pair for pair in PAIRS if len(pair[0] + pair[1]) < len(one + other)]
                self.assertFalse([pair for pair in shorter if literal.compare(each, *pair) == 0])

    def test_signs(self):
        # "A" and "a", and "0" and "00" where the case tells.
        for each in RULES:
            if each[0] == "together":
                self.assertEqual(len("".join(first_tie(each))), 2)
            elif each[1] == "numbers":
                self.assertEqual(len("".join(first_tie(each))), 3)

    def test_where_it_is_not_found(self):
        parting = [each for each in RULES if each[0] != "together" and each[1] != "numbers"]
        self.assertEqual([each for each in RULES if parts_all(each)], parting)
        self.assertEqual(len(parting), 48)
        for each in parting:
            self.assertRaises(NotFound, first_tie, each)

    def test_longer_texts_are_parted_too(self):
        for each in RULES[::9]:
            if parts_all(each):
                texts = sorted(plain_texts(3)[::5] + plain_texts(2))
                for one, other in itertools.combinations(texts, 2):
                    self.assertNotEqual(literal.compare(each, one, other), 0)


class WrongRules(unittest.TestCase):
    def test_both(self):
        for value in WRONG_RULES:
            with self.subTest(value=value):
                self.assertRaises(BadRule, parts_all, value)
                self.assertRaises(BadRule, first_tie, value)


if __name__ == "__main__":
    unittest.main()
