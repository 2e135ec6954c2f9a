"""Point 5, reading: rules and the lists of texts that they allow."""

import copy
import random
import unittest

import literal
from orderrules.comparing import sorted_by
from orderrules.errors import BadRule, BadText
from orderrules.reading import allows, bars, remains, sorters, sorts_so
from orderrules.rules import all_rules
from samples import (
    MANY_TEXTS, P, Q, WRONG_FAMILIES, WRONG_LISTS, WRONG_LISTS_OF_LISTS, WRONG_RULES, rule,
)

TOGETHER = rule(case="together")
MIXED = rule(case="mixed")
LAST = rule(case="last")
NUMBERS = rule(figures="numbers")
TURNED = rule(turned=1)
EIGHT = [P, Q, TOGETHER, MIXED, LAST, NUMBERS, TURNED, P]


def wrong_place(each, texts):
    """Return the first wrong place by the words of the document, or None."""
    for place in range(1, len(texts)):
        if literal.compare(each, texts[place], texts[place - 1]) == -1:
            return place
    return None


def some_lists(seed, many):
    """Return a list of lists of texts, most of them in order by some rule."""
    chance = random.Random(seed)
    lists = []
    for _ in range(many):
        texts = [chance.choice(MANY_TEXTS) for _ in range(chance.randint(1, 12))]
        if chance.random() < 0.8:
            texts = sorted_by(chance.choice(all_rules()), texts)
        lists.append(texts)
    return lists


class Allows(unittest.TestCase):
    def test_allowed(self):
        self.assertIs(allows(P, ["B", "a"]), True)
        self.assertIs(allows(Q, ["a", "B9", "b9", "b10"]), True)
        self.assertIs(allows(P, ["0", "1", "A", "B", "_"]), False)
        self.assertIs(allows(P, ["_", "0", "1", "A", "B", "a", "b"]), True)
        self.assertIs(allows(TURNED, ["b", "a", "B", "A", "1", "0", "_", ""]), True)

    def test_not_allowed(self):
        self.assertIs(allows(Q, ["B", "a"]), False)
        self.assertIs(allows(Q, ["a", "b9", "B9", "b10"]), False)
        self.assertIs(allows(P, ["a", "b", "c", "B"]), False)
        self.assertIs(allows(P, ["B", "A", "a", "b"]), False)

    def test_beside_one_another(self):
        self.assertIs(allows(TOGETHER, ["a", "A", "a", "A", "B", "b"]), True)
        self.assertIs(allows(TOGETHER, ["A", "a", "B", "b", "a"]), False)
        self.assertIs(allows(NUMBERS, ["7", "07", "007", "7"]), True)
        self.assertIs(allows(rule(figures="strict"), ["7", "07"]), False)
        self.assertIs(allows(LAST, ["a", "A"]), False)

    def test_the_same_text_and_one_text(self):
        for each in all_rules():
            self.assertIs(allows(each, ["a"]), True)
            self.assertIs(allows(each, [""]), True)
            self.assertIs(allows(each, ["aB07_"] * 12), True)

    def test_twelve_texts(self):
        texts = ["", "0", "00", "01", "1", "A", "AA", "AB", "B", "a", "aa", "ab"]
        self.assertIs(allows(P, texts), True)
        self.assertIs(allows(P, texts[:10] + ["ab", "aa"]), False)
        self.assertIs(allows(P, ["0", ""] + texts[2:]), False)

    def test_neighbours_count(self):
        # "b" must come ahead of neither neighbour, only right ahead is looked at.
        self.assertIs(allows(P, ["c", "a", "b"]), False)
        self.assertIs(allows(P, ["a", "c", "b"]), False)

    def test_against_the_words(self):
        for texts in some_lists(1, 40):
            for each in all_rules()[::3]:
                self.assertIs(allows(each, texts), wrong_place(each, texts) is None)

    def test_wrong_arguments(self):
        for value in WRONG_RULES:
            self.assertRaises(BadRule, allows, value, ["a"])
            self.assertRaises(BadRule, allows, value, None)
        for value in WRONG_LISTS:
            with self.subTest(value=value):
                self.assertRaises(BadText, allows, P, value)


class RemainsAndBars(unittest.TestCase):
    def hold(self, family, lists):
        found = bars(family, lists)
        for each, told in zip(family, found, strict=True):
            places = [wrong_place(each, texts) for texts in lists]
            wrong = [(place, at) for place, at in enumerate(places) if at is not None]
            self.assertEqual(told, wrong[0] if wrong else None)
        left = [place for place, told in enumerate(found) if told is None]
        self.assertEqual(remains(family, lists), left)

    def test_one_rule(self):
        self.assertEqual(remains([P], [["B", "a"]]), [0])
        self.assertEqual(bars([P], [["B", "a"]]), [None])
        self.assertEqual(remains([Q], [["B", "a"]]), [])
        self.assertEqual(bars([Q], [["B", "a"]]), [(0, 1)])

    def test_eight_rules(self):
        lists = [["B", "a"], ["1", "2", "10"]]
        self.assertEqual(remains(EIGHT, lists), [5])
        self.assertEqual(bars(EIGHT, lists),
                         [(1, 2), (0, 1), (0, 1), (0, 1), (0, 1), None, (0, 1), (1, 2)])

    def test_the_same_rule_twice(self):
        self.assertEqual(remains([P, P], [["B", "a"]]), [0, 1])
        self.assertEqual(remains([P, Q, P], [["B", "a"]]), [0, 2])
        self.assertEqual(bars([Q, Q], [["a"], ["a", "B", "a"]]), [(1, 2), (1, 2)])

    def test_the_first_list_and_the_first_wrong_place(self):
        lists = [["a"], ["a", "b"], ["a", "c", "b", "a"], ["b", "a"]]
        self.assertEqual(bars([P, TURNED], lists), [(2, 2), (1, 1)])
        self.assertEqual(bars([P, TURNED], lists[::-1]), [(0, 1), (1, 1)])

    def test_one_list_and_twenty(self):
        for many in (1, 20):
            self.assertEqual(remains([P, TURNED], [["a", "b"]] * many), [0])
            self.assertEqual(bars([P, TURNED], [["b"]] * (many - 1) + [["a", "b"]]), [None, (many - 1, 1)])
        self.assertEqual(remains(EIGHT, [["a"]] * 20), list(range(8)))
        self.assertEqual(bars(EIGHT, [["a"] * 12] * 20), [None] * 8)

    def test_twelve_texts(self):
        self.assertEqual(bars([P], [["a"] * 11 + ["A"]]), [(0, 11)])
        self.assertEqual(remains([P], [["A"] * 11 + ["a"]]), [0])

    def test_beside_one_another(self):
        lists = [["a", "A", "b", "B"], ["B", "b"]]
        self.assertEqual(remains([TOGETHER, LAST, MIXED], lists), [0])
        self.assertEqual(bars([TOGETHER, LAST, MIXED], lists), [None, (0, 1), (0, 1)])

    def test_against_the_words(self):
        chance = random.Random(2)
        for seed in range(25):
            family = [chance.choice(all_rules()) for _ in range(chance.randint(1, 8))]
            self.hold(family, some_lists(seed, chance.randint(1, 6)))
            self.hold(family, [sorted_by(family[0], texts) for texts in some_lists(seed + 100, 20)])

    def test_wrong_arguments(self):
        for function in (remains, bars):
            for value in WRONG_FAMILIES:
                with self.subTest(function=function.__name__, value=value):
                    self.assertRaises(BadRule, function, value, [["a"]])
                    self.assertRaises(BadRule, function, value, None)
            for value in WRONG_LISTS_OF_LISTS:
                with self.subTest(function=function.__name__, value=value):
                    self.assertRaises(BadText, function, [P], value)

    def test_a_wrong_list_behind_one_that_bars(self):
        self.assertRaises(BadText, remains, [P], [["b", "a"], ["-"]])
        self.assertRaises(BadText, bars, [P], [["b", "a"], []])

    def test_arguments_stay_and_lists_are_new(self):
        family, lists = list(EIGHT), [["B", "a"], ["a", "B", "0"]]
        before = copy.deepcopy((family, lists))
        for function in (remains, bars):
            told = function(family, lists)
            self.assertEqual((family, lists), before)
            again = function(family, lists)
            self.assertIsNot(told, again)
            told.clear()
            self.assertEqual(function(family, lists), again)


class Sorting(unittest.TestCase):
    def test_sorted(self):
        self.assertIs(sorts_so(Q, ["b10", "B9", "b9", "a"], ["a", "B9", "b9", "b10"]), True)
        self.assertIs(sorts_so(Q, ["b10", "B9", "b9", "a"], ["a", "b9", "B9", "b10"]), False)
        self.assertIs(sorts_so(P, ["a"], ["a"]), True)
        self.assertIs(sorts_so(TURNED, ["a", "b", "A"], ["b", "a", "A"]), True)

    def test_not_merely_allowed(self):
        self.assertIs(sorts_so(P, ["a", "b"], ["a", "c"]), False)
        self.assertIs(sorts_so(P, ["b", "a"], ["b", "a"]), False)

    def test_steady(self):
        self.assertIs(sorts_so(TOGETHER, ["b", "a", "A"], ["a", "A", "b"]), True)
        self.assertIs(sorts_so(TOGETHER, ["b", "a", "A"], ["A", "a", "b"]), False)
        self.assertIs(sorts_so(rule(case="together", turned=1), ["a", "A", "b"], ["b", "a", "A"]), True)
        self.assertIs(sorts_so(rule(case="together", turned=1), ["a", "A", "b"], ["b", "A", "a"]), False)
        self.assertIs(sorts_so(NUMBERS, ["8", "07", "7"], ["07", "7", "8"]), True)
        self.assertIs(sorts_so(NUMBERS, ["8", "07", "7"], ["7", "07", "8"]), False)

    def test_unlike_lengths(self):
        self.assertIs(sorts_so(P, ["a", "b"], ["a"]), False)
        self.assertIs(sorts_so(P, ["a"], ["a", "b"]), False)
        self.assertIs(sorts_so(P, ["a"], ["a", "a"]), False)
        self.assertIs(sorts_so(P, ["a", "a"], ["a"]), False)
        self.assertIs(sorts_so(P, ["a"] * 12, ["a"] * 11), False)

    def test_other_texts(self):
        self.assertIs(sorts_so(P, ["a", "b"], ["a", "a"]), False)
        self.assertIs(sorts_so(TOGETHER, ["a"], ["A"]), False)
        self.assertIs(sorts_so(NUMBERS, ["07"], ["7"]), False)

    def test_the_same_text_twice(self):
        self.assertIs(sorts_so(P, ["b", "a", "b", "a"], ["a", "a", "b", "b"]), True)
        self.assertIs(sorts_so(P, ["b", "a", "b", "a"], ["a", "b", "a", "b"]), False)
        self.assertIs(sorts_so(P, ["a"] * 12, ["a"] * 12), True)

    def test_sorters(self):
        family = [P, TOGETHER, MIXED, LAST, P, TURNED, rule(case="together", turned=1), NUMBERS]
        self.assertEqual(sorters(family, ["b", "a", "A"], ["A", "a", "b"]), [0, 2, 3, 4, 7])
        self.assertEqual(sorters(family, ["b", "a", "A"], ["a", "A", "b"]), [1])
        self.assertEqual(sorters(family, ["b", "a", "A"], ["b", "a", "A"]), [5, 6])
        self.assertEqual(sorters(family, ["b", "a", "A"], ["a", "b", "A"]), [])
        self.assertEqual(sorters(family, ["a"], ["a"]), list(range(8)))
        self.assertEqual(sorters([P], ["a", "B"], ["B", "a"]), [0])
        self.assertEqual(sorters([P, P], ["a", "B"], ["a", "B"]), [])

    def test_against_sorting_step_by_step(self):
        for texts in some_lists(3, 30):
            texts = texts[::2] + texts[1::2]
            for each in all_rules()[::7]:
                after = []
                for text in texts:
                    place = len(after)
                    while place > 0 and literal.compare(each, text, after[place - 1]) == -1:
                        place -= 1
                    after.insert(place, text)
                self.assertIs(sorts_so(each, texts, after), True)
                expected = [place for place, other in enumerate([P, Q, TURNED, each])
                            if sorted_by(other, texts) == after]
                self.assertEqual(sorters([P, Q, TURNED, each], texts, after), expected)

    def test_wrong_arguments(self):
        for value in WRONG_RULES:
            with self.subTest(value=value):
                self.assertRaises(BadRule, sorts_so, value, ["a"], ["a"])
                self.assertRaises(BadRule, sorts_so, value, [], None)
        for value in WRONG_FAMILIES:
            with self.subTest(value=value):
                self.assertRaises(BadRule, sorters, value, ["a"], ["a"])
                self.assertRaises(BadRule, sorters, value, None, [])
        for value in WRONG_LISTS:
            with self.subTest(value=value):
                for function, first in ((sorts_so, P), (sorters, [P])):
                    self.assertRaises(BadText, function, first, value, ["a"])
                    self.assertRaises(BadText, function, first, ["a"], value)
                    self.assertRaises(BadText, function, first, ["a", "b"], value)

    def test_arguments_stay_and_lists_are_new(self):
        family, before, after = [P, Q], ["b", "a"], ["a", "b"]
        self.assertIs(sorts_so(P, before, after), True)
        told = sorters(family, before, after)
        self.assertEqual((family, before, after), ([P, Q], ["b", "a"], ["a", "b"]))
        told.clear()
        self.assertEqual(sorters(family, before, after), [0, 1])


if __name__ == "__main__":
    unittest.main()
