"""The pairs that stand for all, and the tests' own ways to all pairs."""

import itertools
import unittest

import literal
import looks
from orderrules.pairs import joined, signs_of, standing_pairs
from orderrules.rules import all_rules
from orderrules.signs import is_text
from orderrules.tellings import all_tellings
from samples import MANY_TEXTS, P, Q


class TheTestsOwn(unittest.TestCase):
    def test_looks_tell_what_the_words_tell(self):
        short = ["".join(row) for row in itertools.product(looks.PLAIN, repeat=2)]
        for texts in (MANY_TEXTS[::3], short[::2], ["0A", "00a", "01a_", "1A_", "00_A", "0_a", "A0", "a00"]):
            for one in texts:
                for other in texts:
                    seen = looks.looks_of(one, other)
                    for each in all_rules()[::5]:
                        self.assertEqual(looks.told(each, seen), literal.compare(each, one, other))

    def test_walk_and_trial_find_the_same(self):
        for most in range(6):
            tried = looks.tellings(all_rules(), most)
            walked = {told: signs for told, signs in looks.tellings(all_rules()).items() if signs <= most}
            self.assertEqual(tried, walked)

    def test_pairs_of_the_walk_are_as_told(self):
        for seen, (signs, (one, other)) in looks.walked().items():
            self.assertEqual(len(one) + len(other), signs)
            self.assertEqual(looks.looks_of(one, other), seen)


class StandingPairs(unittest.TestCase):
    def test_plain_texts_ascending_by_signs(self):
        pairs = standing_pairs()
        for one, other in pairs:
            self.assertTrue(is_text(one) and is_text(other))
            self.assertLessEqual(set(one + other), set(looks.PLAIN))
        signs = [signs_of(pair) for pair in pairs]
        self.assertEqual(signs, sorted(signs))
        self.assertEqual(pairs[0], ("", ""))

    def test_each_once_and_both_ways_round(self):
        pairs = standing_pairs()
        self.assertEqual(len(set(pairs)), len(pairs))
        self.assertEqual({(other, one) for one, other in pairs}, set(pairs))

    def test_signs(self):
        self.assertEqual(signs_of(("", "")), 0)
        self.assertEqual(signs_of(("a", "")), 1)
        self.assertEqual(signs_of(("0_", "00_A")), 6)

    def test_joined(self):
        self.assertEqual(joined([("", ""), ("A", "a")], [("0", "1"), ("_", "")]),
                         [("0", "1"), ("_", ""), ("A0", "a1"), ("A_", "a")])
        self.assertEqual(joined([], [("0", "1")]), [])

    def test_new_at_each_call(self):
        standing_pairs().clear()
        self.assertEqual(len(standing_pairs()), 237)


class AllTellings(unittest.TestCase):
    def hold(self, family):
        found = all_tellings(family)
        least = {told: signs_of(pair) for told, pair in found}
        self.assertEqual(len(least), len(found))
        self.assertEqual(least, looks.tellings(family))
        for told, (one, other) in found:
            self.assertEqual(told, tuple(literal.compare(each, one, other) for each in family))
        self.assertEqual(list(least.values()), sorted(least.values()))

    def test_all_rules_at_once(self):
        self.hold(all_rules())

    def test_some_rules(self):
        self.hold([P])
        self.hold([P, Q])
        self.hold([P, P])
        self.hold(all_rules()[::7])
        self.hold(all_rules()[::-11])


if __name__ == "__main__":
    unittest.main()
