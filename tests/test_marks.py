"""The pairs that stand for all, their marks, and the tests' own ways to all pairs."""

import itertools
import unittest

import literal
import looks
from orderrules.marks import ANSWERS, CAPITALS, LOOKS, decided, marks_behind, marks_of, turned_round
from orderrules.pairs import PAIRS, signs_of
from orderrules.rules import all_rules
from orderrules.signs import is_text
from samples import MANY_TEXTS, P

RULES = all_rules()

# What a mark tells with bars ahead and behind, and with ends first and behind.
TOLD = {
    (-1, -1, -1, -1): "<", (1, 1, 1, 1): ">", (0, 0, 0, 0): "=",
    (-1, -1, 1, 1): "b", (1, 1, -1, -1): "B", (-1, 1, -1, 1): "e", (1, -1, 1, -1): "E",
}


class TheTestsOwn(unittest.TestCase):
    def test_looks_tell_what_the_words_tell(self):
        short = ["".join(row) for row in itertools.product(looks.PLAIN, repeat=2)]
        for texts in (MANY_TEXTS[::3], short[::2], ["0A", "00a", "01a_", "1A_", "00_A", "0_a", "A0", "a00"]):
            for one in texts:
                for other in texts:
                    seen = looks.looks_of(one, other)
                    for each in RULES[::5]:
                        self.assertEqual(looks.told(each, seen), literal.compare(each, one, other))

    def test_walk_and_trial_find_the_same(self):
        for most in range(6):
            tried = looks.tellings(RULES, most)
            walked = {told: signs for told, signs in looks.tellings(RULES).items() if signs <= most}
            self.assertEqual(tried, walked)

    def test_pairs_of_the_walk_are_as_told(self):
        for seen, (signs, (one, other)) in looks.walked().items():
            self.assertEqual(len(one) + len(other), signs)
            self.assertEqual(looks.looks_of(one, other), seen)


class Pairs(unittest.TestCase):
    def test_plain_texts_ascending_by_signs(self):
        for one, other in PAIRS:
            self.assertTrue(is_text(one) and is_text(other))
            self.assertLessEqual(set(one + other), set(looks.PLAIN))
        signs = [signs_of(pair) for pair in PAIRS]
        self.assertEqual(signs, sorted(signs))
        self.assertEqual(PAIRS[0], ("", ""))

    def test_each_once_and_one_way_round(self):
        both = {looks.looks_of(*pair) for pair in PAIRS} | {looks.looks_of(*pair[::-1]) for pair in PAIRS}
        self.assertEqual(len(both), 2 * len(PAIRS) - 1)
        for pair in PAIRS[1:]:
            self.assertEqual(literal.compare(P, *pair), -1)

    def test_they_stand_for_all_with_the_least_signs(self):
        least = {}
        for pair in PAIRS:
            least[looks.looks_of(*pair)] = least[looks.looks_of(*pair[::-1])] = signs_of(pair)
        self.assertEqual(least, {seen: signs for seen, (signs, _) in looks.walked().items()})

    def test_signs(self):
        self.assertEqual(signs_of(("", "")), 0)
        self.assertEqual(signs_of(("a", "")), 1)
        self.assertEqual(signs_of(("0_", "00_A")), 6)


class Marks(unittest.TestCase):
    def test_looks(self):
        for (figures, case), marks in LOOKS.items():
            expected = ""
            for one, other in PAIRS:
                expected += TOLD[tuple(literal.look(case, figures, bars, ends, one, other)
                                       for bars in ("ahead", "behind") for ends in ("first", "behind"))]
            self.assertEqual(marks, expected)
        self.assertEqual(set(LOOKS), set(itertools.product(("signs", "numbers"), ("apart", "mixed", "together"))))

    def test_capitals(self):
        # They count only for pairs whose letters are alike but for case.
        self.assertEqual(len(CAPITALS), len(PAIRS))
        for mark, (one, other), numbers in zip(CAPITALS, PAIRS, LOOKS["numbers", "together"]):
            self.assertEqual(ANSWERS[mark], literal.capitals(one, other) if numbers == "=" else 0)

    def test_marks_of_all_rules(self):
        for each in RULES:
            marks = marks_of(each)
            self.assertEqual([ANSWERS[mark] for mark in marks], [literal.compare(each, *pair) for pair in PAIRS])

    def test_small_ones(self):
        self.assertEqual(turned_round("<=><"), ">=<>")
        self.assertEqual(marks_behind("=<=>=", "<>>=="), "<<>>=")
        self.assertEqual(decided("bB<>=eE", "b", "B", True), "<><>=eE")
        self.assertEqual(decided("bB<>=eE", "e", "E", False), "bB<>=><")


if __name__ == "__main__":
    unittest.main()
