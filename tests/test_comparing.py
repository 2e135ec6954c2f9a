"""Points 4 and 5: how two texts are compared."""

import unittest

import literal
from orderrules.comparing import compare
from orderrules.errors import BadRule, BadText
from orderrules.rules import all_rules
from orderrules.signs import plain_texts
from samples import LETTERS, MANY_TEXTS, P, Q, WRONG_RULES, WRONG_TEXTS, rule


class ByHand(unittest.TestCase):
    def first(self, one, other, **words):
        """Hold that the one text comes first, and last if the rule is turned."""
        with self.subTest(one=one, other=other, words=words):
            self.assertEqual(compare(rule(**words), one, other), -1)
            self.assertEqual(compare(rule(**words), other, one), 1)
            self.assertEqual(compare(rule(turned=1, **words), one, other), 1)
            self.assertEqual(compare(rule(turned=1, **words), other, one), -1)

    def beside(self, one, other, **words):
        """Hold that two texts are beside one another, turned or not."""
        with self.subTest(one=one, other=other, words=words):
            for turned in (0, 1):
                self.assertEqual(compare(rule(turned=turned, **words), one, other), 0)
                self.assertEqual(compare(rule(turned=turned, **words), other, one), 0)

    def ascending(self, texts, **words):
        for place, text in enumerate(texts):
            for later in texts[place + 1:]:
                self.first(text, later, **words)

    def test_apart(self):
        self.ascending(["A", "B", "M", "Z", "a", "b", "m", "z"], case="apart")
        self.ascending(["B", "Ba", "a", "aZ", "aa"], case="apart")

    def test_mixed(self):
        self.ascending(["A", "a", "B", "b", "M", "m", "Z", "z"], case="mixed")
        self.ascending(["AZ", "aA", "ab", "BA"], case="mixed")

    def test_together(self):
        for case in ("A", "a"), ("Z", "z"), ("aBc", "AbC"), ("x_1Y", "X_1y"):
            self.beside(case[0], case[1], case="together")
        self.ascending(["A", "b", "C", "z"], case="together")
        self.ascending(["a", "B", "c", "Z"], case="together")
        self.first("Ab", "aC", case="together")
        self.first("ab", "AC", case="together")

    def test_last(self):
        self.first("A", "a", case="last")
        self.first("a", "B", case="last")
        self.first("ab", "AC", case="last")
        self.first("Ab", "aB", case="last")
        self.first("aB", "ab", case="last")
        self.first("a", "AA", case="last")
        self.first("A", "aa", case="last")
        self.first("a_1B", "a_1b", case="last")
        self.beside("a", "a", case="last")

    def test_last_by_the_alphabet_before_capitals(self):
        self.first("aA", "Ab", case="last")
        self.first("aA", "Ab", case="together")
        self.first("Ab", "aA", case="mixed")
        self.first("Ab", "aA", case="apart")

    def test_letters_of_each_case(self):
        self.ascending(LETTERS, case="apart")
        self.ascending(literal.MIXED, case="mixed")
        self.ascending(literal.MIXED, case="last")
        self.ascending(LETTERS[:26], case="together")
        self.ascending(LETTERS[26:], case="together")

    def test_figures_ahead_of_letters(self):
        for case in ("apart", "mixed", "together", "last"):
            for figures in ("signs", "numbers", "strict"):
                self.ascending(["0", "1", "5", "9", "A", "b"], case=case, figures=figures)
                self.first("x9", "xA", case=case, figures=figures)
                self.first("99", "a", case=case, figures=figures)

    def test_signs(self):
        self.first("10", "9", figures="signs")
        self.first("07", "7", figures="signs")
        self.first("0", "00", figures="signs")
        self.first("a10", "a9", figures="signs")
        self.first("1a", "2", figures="signs")
        self.first("11", "1a", figures="signs")

    def test_numbers(self):
        for figures in ("numbers", "strict"):
            self.first("9", "10", figures=figures)
            self.first("a9", "a10", figures=figures)
            self.first("08", "9", figures=figures)
            self.first("8", "09", figures=figures)
            self.first("a007b", "a7c", figures=figures)
            self.first("1a", "11", figures=figures)
            self.first("2", "10a", figures=figures)
            self.first("9" * 39, "1" + "0" * 39, figures=figures)
            self.first("1" + "0" * 38 + "1", "1" + "0" * 38 + "2", figures=figures)
            self.first("0" * 39 + "1", "2", figures=figures)

    def test_numbers_of_like_worth(self):
        self.beside("07", "7", figures="numbers")
        self.beside("00", "0", figures="numbers")
        self.beside("0" * 40, "0", figures="numbers")
        self.beside("a07_00b", "a7_0b", figures="numbers")
        self.first("07a", "7b", figures="numbers")
        self.first("7a", "07b", figures="numbers")
        self.first("7", "07a", figures="numbers")

    def test_strict(self):
        self.first("07", "7", figures="strict")
        self.first("a07b", "a7b", figures="strict")
        self.first("a7b", "a07c", figures="strict")
        self.first("7", "07a", figures="strict")
        self.first("a1_01", "a1_1", figures="strict")
        self.first("01_1", "1_01", figures="strict")
        self.beside("07", "07", figures="strict")

    def test_strict_and_ends(self):
        self.first("0", "00", figures="strict", ends="first")
        self.first("00", "0", figures="strict", ends="behind")
        self.first("0", "0" * 40, figures="strict", ends="first")
        self.first("0" * 40, "0", figures="strict", ends="behind")
        self.first("07", "7", figures="strict", ends="behind")

    def test_strict_and_the_sign_behind_a_number(self):
        # "0a" and "00a" part at "a" and "0", "0_" and "00_" at the bar and "0".
        self.first("00a", "0a", figures="strict")
        self.first("0_", "00_", figures="strict", bars="ahead")
        self.first("00_", "0_", figures="strict", bars="behind")

    def test_strict_and_case(self):
        self.first("07A", "7a", case="together", figures="strict")
        self.first("07a", "7A", case="together", figures="strict")
        self.beside("07a", "07A", case="together", figures="strict")
        self.first("7A", "07a", case="mixed", figures="strict")
        self.first("7A", "07a", case="apart", figures="strict")
        self.first("A7", "a07", case="mixed", figures="strict")

    def test_strict_and_last_together(self):
        self.first("07a", "7A", case="last", figures="strict")
        self.first("a07", "A7", case="last", figures="strict")
        self.first("A07", "a07", case="last", figures="strict")
        self.first("A7", "a7", case="last", figures="strict")
        self.first("07A", "7a", case="last", figures="strict")
        self.beside("a07", "a07", case="last", figures="strict")

    def test_last_with_numbers(self):
        self.first("A7", "a07", case="last", figures="numbers")
        self.first("A07", "a7", case="last", figures="numbers")
        self.first("7A", "07a", case="last", figures="numbers")
        self.first("07A", "7a", case="last", figures="numbers")
        self.first("7Ab", "007aB", case="last", figures="numbers")
        self.first("a0B00c", "a00b0C", case="last", figures="numbers")
        self.beside("a07", "a7", case="last", figures="numbers")

    def test_bar_and_signs(self):
        for case in ("apart", "mixed", "together", "last"):
            for figures in ("signs", "numbers", "strict"):
                for other in ("0", "9", "10", "A", "Z", "a", "z"):
                    words = {"case": case, "figures": figures}
                    self.first("_", other, bars="ahead", **words)
                    self.first(other, "_", bars="behind", **words)
                    self.first("x_a", "x" + other, bars="ahead", **words)
                    self.first("x" + other, "x_a", bars="behind", **words)
                self.beside("_", "_", case=case, figures=figures)

    def test_bar_and_end(self):
        for bars in ("ahead", "behind"):
            self.first("a", "a_", bars=bars, ends="first")
            self.first("a_", "a", bars=bars, ends="behind")
            self.first("", "_", bars=bars, ends="first")
            self.first("_", "", bars=bars, ends="behind")
            self.first("_", "__", bars=bars, ends="first")
            self.first("__", "_", bars=bars, ends="behind")

    def test_beginnings(self):
        for figures in ("signs", "numbers", "strict"):
            for one, other in (("", "a"), ("", "0"), ("a", "ab"), ("a1", "a1b"), ("B", "B0")):
                self.first(one, other, figures=figures, ends="first")
                self.first(other, one, figures=figures, ends="behind")

    def test_a_beginning_in_the_middle_of_a_number(self):
        self.first("1", "10", figures="signs", ends="first")
        self.first("10", "1", figures="signs", ends="behind")
        for figures in ("numbers", "strict"):
            for ends in ("first", "behind"):
                self.first("1", "10", figures=figures, ends=ends)

    def test_pieces_are_counted_not_signs(self):
        self.first("0001", "1a", figures="numbers", ends="first")
        self.first("1a", "0001", figures="numbers", ends="behind")

    def test_examples_of_the_document(self):
        self.assertEqual(compare(P, "B", "a"), -1)
        self.assertEqual(compare(Q, "B", "a"), 1)
        self.assertEqual([text for text in plain_texts(1) if compare(P, text, "a") == -1],
                         ["0", "1", "A", "B", "_"])


class AllRules(unittest.TestCase):
    def hold(self, texts):
        for each in all_rules():
            for one in texts:
                for other in texts:
                    told = compare(each, one, other)
                    if told != literal.compare(each, one, other):
                        self.fail((each, one, other, told))

    def test_short_plain_texts(self):
        self.hold(plain_texts(0) + plain_texts(1) + plain_texts(2))

    def test_many_texts(self):
        self.hold(MANY_TEXTS)

    def test_plain_texts_of_figures_and_one_letter(self):
        texts = [text for text in plain_texts(4) if set(text) <= set("0Aa")]
        self.hold(texts[:40])
        self.hold([text for text in plain_texts(3) if set(text) <= set("01a_")])

    def test_a_text_and_itself(self):
        for each in all_rules():
            for text in MANY_TEXTS:
                self.assertEqual(compare(each, text, text), 0)

    def test_the_other_way_round_and_turned(self):
        texts = MANY_TEXTS[::3]
        for each in all_rules():
            turned = each[:4] + (1 - each[4],)
            for one in texts:
                for other in texts:
                    told = compare(each, one, other)
                    self.assertIs(type(told), int)
                    self.assertEqual(compare(each, other, one), -told)
                    self.assertEqual(compare(turned, one, other), -told)


class WrongArguments(unittest.TestCase):
    def test_rules(self):
        for value in WRONG_RULES:
            with self.subTest(value=value):
                self.assertRaises(BadRule, compare, value, "a", "b")

    def test_texts(self):
        for value in WRONG_TEXTS:
            with self.subTest(value=value):
                self.assertRaises(BadText, compare, P, value, "b")
                self.assertRaises(BadText, compare, P, "a", value)
                self.assertRaises(BadText, compare, P, value, value)

    def test_the_rule_is_checked_first(self):
        for value in WRONG_TEXTS:
            self.assertRaises(BadRule, compare, None, value, "b")
            self.assertRaises(BadRule, compare, list(P), "a", value)


if __name__ == "__main__":
    unittest.main()
