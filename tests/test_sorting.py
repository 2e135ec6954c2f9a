"""Lists of texts: sorted_by and first_wrong."""

import copy
import functools
import itertools
import unittest

import literal
from orderrules.comparing import compare, first_wrong, sorted_by
from orderrules.errors import BadRule, BadText
from orderrules.rules import all_rules
from samples import MANY_TEXTS, P, Q, WRONG_LISTS, WRONG_RULES, WRONG_TEXTS, rule

LISTS = [
    [""],
    ["b10", "B9", "b9", "a"],
    ["a", "A", "a", "A", "07", "7", "007", "7a", "07A", "_", "", "_a"],
    ["7", "07", "007", "0", "00", "000"],
    ["aB", "Ab", "ab", "AB"] * 3,
    ["a_1", "a1_", "a", "A_01", "A1", "a01"],
    MANY_TEXTS[:12],
    MANY_TEXTS[12:24],
    MANY_TEXTS[24:36],
    MANY_TEXTS[-12:],
]


def literally_sorted(each, texts):
    return sorted(texts, key=functools.cmp_to_key(functools.partial(literal.compare, each)))


def literally_wrong(each, texts):
    for place in range(1, len(texts)):
        if literal.compare(each, texts[place], texts[place - 1]) == -1:
            return place
    return None


class Sorting(unittest.TestCase):
    def test_example(self):
        self.assertEqual(sorted_by(Q, ["b10", "B9", "b9", "a"]), ["a", "B9", "b9", "b10"])

    def test_by_hand(self):
        self.assertEqual(sorted_by(P, ["b10", "B9", "b9", "a"]), ["B9", "a", "b10", "b9"])
        texts = ["b", "a_", "B", "a", "10", "9", ""]
        self.assertEqual(sorted_by(P, texts), ["", "10", "9", "B", "a", "a_", "b"])
        self.assertEqual(sorted_by(rule(turned=1), texts), ["b", "a_", "a", "B", "9", "10", ""])
        self.assertEqual(sorted_by(rule(case="mixed", figures="numbers", ends="behind"), texts),
                         ["9", "10", "a_", "a", "B", "b", ""])

    def test_steady(self):
        texts = ["b", "a", "B", "A", "a"]
        for turned, answer in ((0, ["a", "A", "a", "b", "B"]), (1, ["b", "B", "a", "A", "a"])):
            self.assertEqual(sorted_by(rule(case="together", turned=turned), texts), answer)
        texts = ["7", "007", "6", "07", "06"]
        for turned, answer in ((0, ["6", "06", "7", "007", "07"]), (1, ["7", "007", "07", "6", "06"])):
            self.assertEqual(sorted_by(rule(figures="numbers", turned=turned), texts), answer)

    def test_steady_in_every_order(self):
        for texts in itertools.permutations(["a", "A", "b", "B"]):
            for turned in (0, 1):
                told = sorted_by(rule(case="together", turned=turned), list(texts))
                groups = [[text for text in texts if text in group] for group in ("aA", "bB")]
                self.assertEqual(told, groups[turned] + groups[1 - turned])

    def test_all_rules(self):
        for each in all_rules():
            for texts in LISTS:
                with self.subTest(rule=each, texts=texts):
                    self.assertEqual(sorted_by(each, texts), literally_sorted(each, texts))

    def test_1_and_12_texts(self):
        self.assertEqual(sorted_by(P, ["a"]), ["a"])
        self.assertEqual(sorted_by(P, list("lkjihgfedcba")), list("abcdefghijkl"))
        self.assertEqual(sorted_by(P, ["a"] * 12), ["a"] * 12)

    def test_returned_list_is_new(self):
        for texts in ["a"], ["a", "b"], ["b", "a"]:
            told = sorted_by(P, texts)
            self.assertIs(type(told), list)
            self.assertIsNot(told, texts)
            told.clear()
            self.assertEqual(sorted_by(P, texts), sorted(texts))


class FirstWrong(unittest.TestCase):
    def test_in_order(self):
        self.assertIsNone(first_wrong(P, ["a"]))
        self.assertIsNone(first_wrong(P, [""]))
        self.assertIsNone(first_wrong(P, ["", "1", "A", "a", "aa"]))
        self.assertIsNone(first_wrong(P, list("abcdefghijkl")))
        self.assertIsNone(first_wrong(P, ["a", "a", "a"]))
        self.assertIsNone(first_wrong(rule(turned=1), ["aa", "a", "A", "1", ""]))

    def test_beside_is_not_wrong(self):
        self.assertIsNone(first_wrong(rule(case="together"), ["a", "A", "a"]))
        self.assertIsNone(first_wrong(rule(case="together", turned=1), ["a", "A", "a"]))
        self.assertIsNone(first_wrong(rule(figures="numbers"), ["7", "07", "007", "7"]))

    def test_places(self):
        self.assertEqual(first_wrong(P, ["b", "a"]), 1)
        self.assertEqual(first_wrong(P, ["a", "b", "a"]), 2)
        self.assertEqual(first_wrong(P, ["a", "c", "b", "a"]), 2)
        self.assertEqual(first_wrong(P, ["b", "c", "d", "c", "a"]), 3)
        self.assertEqual(first_wrong(P, list("bcdefghijkla")), 11)
        self.assertEqual(first_wrong(Q, ["b10", "B9", "b9", "a"]), 1)
        self.assertEqual(first_wrong(rule(turned=1), ["b", "a", "b"]), 2)

    def test_only_neighbours_count(self):
        # "a" must come ahead of "b", which does not stand right ahead of it.
        self.assertEqual(first_wrong(P, ["b", "c", "a", "0"]), 2)
        self.assertEqual(first_wrong(P, ["c", "a", "b"]), 1)

    def test_all_rules(self):
        for each in all_rules():
            for texts in LISTS:
                with self.subTest(rule=each, texts=texts):
                    self.assertEqual(first_wrong(each, texts), literally_wrong(each, texts))
                    self.assertIsNone(first_wrong(each, sorted_by(each, texts)))

    def test_place_is_an_integer(self):
        self.assertIs(type(first_wrong(P, ["b", "a"])), int)


class Arguments(unittest.TestCase):
    def test_rules(self):
        for function in (sorted_by, first_wrong):
            for value in WRONG_RULES:
                with self.subTest(value=value):
                    self.assertRaises(BadRule, function, value, ["a", "b"])
                    self.assertRaises(BadRule, function, value, [])

    def test_lists(self):
        for function in (sorted_by, first_wrong):
            for value in WRONG_LISTS:
                with self.subTest(value=value):
                    self.assertRaises(BadText, function, P, value)
                    self.assertRaises(BadRule, function, None, value)

    def test_texts_in_lists(self):
        for function in (sorted_by, first_wrong):
            for value in WRONG_TEXTS:
                for place in range(3):
                    texts = ["b", "a"]
                    texts.insert(place, value)
                    self.assertRaises(BadText, function, P, texts)

    def test_not_changed(self):
        for each in all_rules():
            for texts in LISTS:
                before = copy.deepcopy(texts)
                sorted_by(each, texts)
                first_wrong(each, texts)
                compare(each, texts[0], texts[-1])
                self.assertEqual(texts, before)

    def test_not_changed_by_a_wrong_call(self):
        texts = ["b", "a", "-"]
        for function in (sorted_by, first_wrong):
            self.assertRaises(BadText, function, P, texts)
        self.assertEqual(texts, ["b", "a", "-"])


if __name__ == "__main__":
    unittest.main()
