"""Point 2: rules."""

import unittest
from unittest.mock import ANY

from orderrules.rules import all_rules, is_rule
from samples import P, Q, WRONG_RULES, rule


class IsRule(unittest.TestCase):
    def test_ordinary_rules(self):
        self.assertIs(is_rule(P), True)
        self.assertIs(is_rule(Q), True)
        self.assertIs(is_rule(("mixed", "strict", "behind", "behind", 1)), True)

    def test_every_word(self):
        for case in ("apart", "mixed", "together", "last"):
            self.assertIs(is_rule(rule(case=case)), True)
        for figures in ("signs", "numbers", "strict"):
            self.assertIs(is_rule(rule(figures=figures)), True)
        for bars in ("ahead", "behind"):
            self.assertIs(is_rule(rule(bars=bars)), True)
        for ends in ("first", "behind"):
            self.assertIs(is_rule(rule(ends=ends)), True)
        for turned in (0, 1):
            self.assertIs(is_rule(rule(turned=turned)), True)

    def test_all_rules_are_rules(self):
        self.assertTrue(all(is_rule(value) is True for value in all_rules()))

    def test_wrong_rules(self):
        for value in WRONG_RULES:
            with self.subTest(value=value):
                self.assertIs(is_rule(value), False)

    def test_one_wrong_item(self):
        for place in range(5):
            for item in ("wrong", 2, -1, True, False, None, [], (), {}, b"", object(), ANY):
                value = P[:place] + (item,) + P[place + 1:]
                with self.subTest(value=value):
                    self.assertIs(is_rule(value), False)

    def test_a_list_is_no_rule(self):
        for value in all_rules():
            self.assertIs(is_rule(list(value)), False)


class AllRules(unittest.TestCase):
    def test_number(self):
        self.assertEqual(len(all_rules()), 96)
        self.assertEqual(len(set(all_rules())), 96)

    def test_first_and_last_ones(self):
        self.assertEqual(all_rules()[:5], [
            ("apart", "signs", "ahead", "first", 0),
            ("apart", "signs", "ahead", "first", 1),
            ("apart", "signs", "ahead", "behind", 0),
            ("apart", "signs", "ahead", "behind", 1),
            ("apart", "signs", "behind", "first", 0),
        ])
        self.assertEqual(all_rules()[8], ("apart", "numbers", "ahead", "first", 0))
        self.assertEqual(all_rules()[16], ("apart", "strict", "ahead", "first", 0))
        self.assertEqual(all_rules()[24], ("mixed", "signs", "ahead", "first", 0))
        self.assertEqual(all_rules()[48], ("together", "signs", "ahead", "first", 0))
        self.assertEqual(all_rules()[72], ("last", "signs", "ahead", "first", 0))
        self.assertEqual(all_rules()[95], ("last", "strict", "behind", "behind", 1))

    def test_order(self):
        words = [
            ["apart", "mixed", "together", "last"],
            ["signs", "numbers", "strict"],
            ["ahead", "behind"],
            ["first", "behind"],
            [0, 1],
        ]
        places = [tuple(words[k].index(value[k]) for k in range(5)) for value in all_rules()]
        self.assertEqual(places, sorted(places))

    def test_new_at_each_call(self):
        rules = all_rules()
        self.assertIs(type(rules), list)
        self.assertIsNot(rules, all_rules())
        rules.clear()
        self.assertEqual(len(all_rules()), 96)
        self.assertTrue(all(type(value[4]) is int for value in all_rules()))


if __name__ == "__main__":
    unittest.main()
