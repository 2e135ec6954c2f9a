"""The interface of steady.py: sorting by one rule, then steadily by another one."""

import functools
import unittest

import literal
import looks
from orderrules.comparing import sorted_by
from orderrules.errors import BadRule, BadText, NotFound
from orderrules.rules import all_rules
from orderrules.signs import plain_texts
from orderrules.steady import hides, two_compare, two_of, two_same
from samples import MANY_TEXTS, P, Q, WRONG_RULES, WRONG_TEXTS, rule

RULES = all_rules()
ROWS = list(looks.walked())
COLUMNS = {each: [looks.told(each, seen) for seen in ROWS] for each in RULES}


def by_two(one, other):
    """Return what sorting by the one, then by the other, tells of all pairs."""
    return [that if that != 0 else this for this, that in zip(COLUMNS[one], COLUMNS[other])]


def steady_sort(each, texts):
    """Return the texts sorted steadily, by the words of the document."""
    return sorted(texts, key=functools.cmp_to_key(lambda one, other: literal.compare(each, one, other)))


class TwoCompare(unittest.TestCase):
    def test_by_hand(self):
        together, turned = rule(case="together"), rule(turned=1)
        self.assertEqual(two_compare(P, together, "A", "a"), -1)
        self.assertEqual(two_compare(P, together, "a", "A"), 1)
        self.assertEqual(two_compare(turned, together, "A", "a"), 1)
        self.assertEqual(two_compare(turned, together, "a", "B"), -1)
        self.assertEqual(two_compare(together, turned, "a", "B"), -1)
        self.assertEqual(two_compare(together, P, "a", "B"), 1)
        self.assertEqual(two_compare(together, Q, "07", "7"), -1)
        self.assertEqual(two_compare(rule(figures="numbers"), together, "07", "7"), -1)
        self.assertEqual(two_compare(together, together, "aB", "Ab"), 0)
        self.assertEqual(two_compare(together, rule(figures="numbers"), "a7", "A7"), 1)
        self.assertEqual(two_compare(P, P, "a", "a"), 0)

    def test_against_the_words(self):
        for one in RULES[::13]:
            for other in RULES[::11]:
                for first in MANY_TEXTS[::4]:
                    for second in MANY_TEXTS[::3]:
                        told = literal.compare(other, first, second)
                        if told == 0:
                            told = literal.compare(one, first, second)
                        self.assertEqual(two_compare(one, other, first, second), told)

    def test_against_sorting_twice(self):
        texts = ["a07", "A7", "a7", "B", "b", "A07", "_a", "0", "00", "", "A", "a"]
        for one in RULES[::7]:
            for other in RULES[::5]:
                twice = sorted_by(other, sorted_by(one, texts))
                self.assertEqual(twice, steady_sort(other, steady_sort(one, texts)))
                for place in range(1, len(twice)):
                    # Those beside one another by both stay as they stood.
                    told = two_compare(one, other, twice[place - 1], twice[place])
                    self.assertIn(told, (-1, 0))
                    if told == 0:
                        self.assertLess(texts.index(twice[place - 1]), texts.index(twice[place]))

    def test_wrong_rules_ahead_of_wrong_texts(self):
        for value in WRONG_RULES:
            with self.subTest(value=value):
                self.assertRaises(BadRule, two_compare, value, P, "a", "b")
                self.assertRaises(BadRule, two_compare, P, value, "a", "b")
                self.assertRaises(BadRule, two_compare, P, value, None, "b")
                self.assertRaises(BadRule, two_compare, value, P, "a", "-")

    def test_wrong_texts(self):
        for value in WRONG_TEXTS:
            with self.subTest(value=value):
                self.assertRaises(BadText, two_compare, P, Q, value, "b")
                self.assertRaises(BadText, two_compare, P, Q, "a", value)


class TwoSameAndTwoOf(unittest.TestCase):
    def test_example(self):
        self.assertEqual(two_of(rule(case="mixed"), rule(case="together")), rule(case="last"))
        self.assertIs(two_same(rule(case="mixed"), rule(case="together"), rule(case="last")), True)

    def test_by_hand(self):
        self.assertIs(two_same(P, P, P), True)
        self.assertIs(two_same(P, Q, Q), False)
        self.assertIs(two_same(P, rule(turned=1), rule(turned=1)), True)
        self.assertIs(two_same(rule(turned=1), P, rule(turned=1)), False)
        self.assertIs(two_same(P, rule(figures="numbers"), rule(figures="strict")), True)
        self.assertIs(two_same(P, rule(figures="numbers"), rule(figures="numbers")), False)
        self.assertEqual(two_of(P, rule(figures="numbers")), rule(figures="strict"))
        self.assertRaises(NotFound, two_of, rule(turned=1), rule(figures="numbers"))

    def test_all_twos(self):
        first = {}
        for each in RULES:
            first.setdefault(tuple(COLUMNS[each]), each)
        for one in RULES[::3]:
            for other in RULES[::2]:
                expected = first.get(tuple(by_two(one, other)))
                if expected is None:
                    self.assertRaises(NotFound, two_of, one, other)
                else:
                    self.assertEqual(two_of(one, other), expected)
                    self.assertIs(two_same(one, other, expected), True)

    def test_two_same(self):
        for one in RULES[::19]:
            for other in RULES[::17]:
                told = by_two(one, other)
                for third in RULES[::5]:
                    self.assertIs(two_same(one, other, third), told == COLUMNS[third])

    def test_short_pairs(self):
        texts = plain_texts(0) + plain_texts(1) + plain_texts(2)
        for one, other in ((rule(case="mixed"), rule(case="together")), (P, rule(figures="numbers"))):
            third = two_of(one, other)
            for first in texts:
                for second in texts:
                    told = literal.compare(other, first, second) or literal.compare(one, first, second)
                    self.assertEqual(told, literal.compare(third, first, second))

    def test_hides(self):
        for one in RULES[::3]:
            for other in RULES[::2]:
                self.assertIs(hides(one, other), by_two(one, other) == COLUMNS[other])

    def test_hides_by_hand(self):
        self.assertIs(hides(P, P), True)
        self.assertIs(hides(P, rule(case="together")), False)
        self.assertIs(hides(rule(case="together"), P), True)
        self.assertIs(hides(Q, rule(case="last", figures="strict", turned=1)), True)
        self.assertIs(hides(rule(case="together", figures="numbers"), Q), True)
        self.assertIs(hides(rule(case="together"), Q), False)
        for each in RULES:
            self.assertIs(hides(each, each), True)
            self.assertIs(hides(each, P), True)

    def test_wrong_rules(self):
        for value in WRONG_RULES:
            with self.subTest(value=value):
                for function in (two_of, hides):
                    self.assertRaises(BadRule, function, value, P)
                    self.assertRaises(BadRule, function, P, value)
                    self.assertRaises(BadRule, function, rule(turned=1), value)
                self.assertRaises(BadRule, two_same, value, P, P)
                self.assertRaises(BadRule, two_same, P, value, P)
                self.assertRaises(BadRule, two_same, P, Q, value)


if __name__ == "__main__":
    unittest.main()
