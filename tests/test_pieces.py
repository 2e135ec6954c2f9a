"""Point 3: the pieces of a text."""

import unittest

import literal
from orderrules.comparing import pieces_of
from orderrules.errors import BadRule, BadText
from orderrules.rules import all_rules
from samples import MANY_TEXTS, P, WRONG_RULES, WRONG_TEXTS, rule

NUMBERED = [
    ("", []),
    ("7", ["7"]),
    ("007", ["007"]),
    ("a", ["a"]),
    ("12ab", ["12", "a", "b"]),
    ("a12b", ["a", "12", "b"]),
    ("ab12", ["a", "b", "12"]),
    ("1a02B3_44", ["1", "a", "02", "B", "3", "_", "44"]),
    ("1_1", ["1", "_", "1"]),
    ("__", ["_", "_"]),
    ("9" * 40, ["9" * 40]),
    ("ab" * 20, ["a", "b"] * 20),
]


class Pieces(unittest.TestCase):
    def test_signs(self):
        for text, _ in NUMBERED:
            with self.subTest(text=text):
                self.assertEqual(pieces_of(rule(figures="signs"), text), list(text))

    def test_numbers_and_strict(self):
        for figures in ("numbers", "strict"):
            for text, pieces in NUMBERED:
                with self.subTest(figures=figures, text=text):
                    self.assertEqual(pieces_of(rule(figures=figures), text), pieces)

    def test_only_figures_matter(self):
        for each in all_rules():
            for text in MANY_TEXTS:
                self.assertEqual(pieces_of(each, text), literal.pieces(each[1], text))

    def test_new_at_each_call(self):
        for figures in ("signs", "numbers", "strict"):
            pieces = pieces_of(rule(figures=figures), "a12")
            self.assertIs(type(pieces), list)
            pieces.append("x")
            self.assertEqual("".join(pieces_of(rule(figures=figures), "a12")), "a12")
            self.assertEqual(pieces_of(rule(figures=figures), ""), [])

    def test_wrong_arguments(self):
        for value in WRONG_RULES:
            with self.subTest(rule=value):
                self.assertRaises(BadRule, pieces_of, value, "a")
                self.assertRaises(BadRule, pieces_of, value, "-")
        for value in WRONG_TEXTS:
            with self.subTest(text=value):
                self.assertRaises(BadText, pieces_of, P, value)


if __name__ == "__main__":
    unittest.main()
