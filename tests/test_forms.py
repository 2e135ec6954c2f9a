"""Point 2: rules written as texts, and read from them."""

import unittest

from orderrules.errors import BadRule, BadText
from orderrules.forms import format_rule, parse_rule
from orderrules.rules import all_rules
from samples import P, Q, WRONG_RULES, WRONG_TEXTS, rule

FORM = "apart signs ahead first 0"

WRONG_FORMS = [
    "", " ", "    ", "0", "apart", "apart signs", "apart signs ahead first", "apart signs ahead first ",
    " " + FORM, FORM + " ", " " + FORM + " ", FORM + "\n", "\n" + FORM, FORM + "\t", FORM + "\x00",
    "apart  signs ahead first 0", "apart signs ahead first  0", "apart  signs  ahead  first  0",
    "apart\tsigns\tahead\tfirst\t0", "apart signs\nahead first 0", "apart signs\u00a0ahead first 0",
    "apart,signs,ahead,first,0", "apartsignsaheadfirst0", FORM + " 0", FORM + " " + FORM, "0 " + FORM,
    "apart signs ahead first 2", "apart signs ahead first -1", "apart signs ahead first -0",
    "apart signs ahead first +0", "apart signs ahead first 00", "apart signs ahead first 01",
    "apart signs ahead first 10", "apart signs ahead first 1.0", "apart signs ahead first True",
    "apart signs ahead first False", "apart signs ahead first turned", "apart signs ahead first None",
    "apart signs ahead first \u0660", "apart signs ahead first \uff11", "apart signs ahead first \u00b9",
    "apart signs ahead first first", "apart signs ahead first '0'", "apart signs first ahead 0",
    "signs apart ahead first 0", "Apart signs ahead first 0", "APART SIGNS AHEAD FIRST 0",
    "strict signs ahead first 0", "apart last ahead first 0", "apart sign ahead first 0",
    "apart signs aheadbehind first 0", "apart signs first first 0", "apart signs ahead ahead 0",
    "apart signs ahead last 0", "apart signs ahead 0", "apart signs ahead first 0 1", "apart apart apart apart 0",
    "('apart', 'signs', 'ahead', 'first', 0)", "a" * 41, " " * 100000, "apart " * 10000,
]


class Forms(unittest.TestCase):
    def test_example(self):
        self.assertEqual(format_rule(P), "apart signs ahead first 0")
        self.assertEqual(parse_rule("apart signs ahead first 0"), P)

    def test_by_hand(self):
        self.assertEqual(format_rule(Q), "last numbers ahead first 0")
        self.assertEqual(format_rule(rule("together", "strict", "behind", "behind", 1)),
                         "together strict behind behind 1")
        self.assertEqual(parse_rule("mixed numbers behind first 1"), ("mixed", "numbers", "behind", "first", 1))

    def test_there_and_back(self):
        forms = [format_rule(each) for each in all_rules()]
        self.assertEqual(len(set(forms)), 96)
        for each, form in zip(all_rules(), forms):
            self.assertEqual(form, " ".join(each[:4]) + " " + str(each[4]))
            told = parse_rule(form)
            self.assertEqual(told, each)
            self.assertIs(type(told), tuple)
            self.assertIs(type(told[4]), int)
            self.assertEqual(format_rule(told), form)

    def test_no_other_words(self):
        words = ["apart", "mixed", "together", "last", "signs", "numbers", "strict", "ahead", "behind", "first"]
        right = {format_rule(each) for each in all_rules()}
        for place in range(4):
            for word in words:
                parts = FORM.split(" ")
                parts[place] = word
                form = " ".join(parts)
                if form in right:
                    self.assertEqual(format_rule(parse_rule(form)), form)
                else:
                    self.assertRaises(BadText, parse_rule, form)


class WrongArguments(unittest.TestCase):
    def test_rules(self):
        for value in WRONG_RULES:
            with self.subTest(value=value):
                self.assertRaises(BadRule, format_rule, value)

    def test_forms(self):
        for value in WRONG_FORMS:
            with self.subTest(value=value[:50]):
                self.assertRaises(BadText, parse_rule, value)

    def test_other_kinds(self):
        for value in WRONG_TEXTS + [P, list(P), FORM.encode(), FORM.split(" "), [FORM], (FORM,), {FORM: 1}]:
            with self.subTest(value=value):
                self.assertRaises(BadText, parse_rule, value)


if __name__ == "__main__":
    unittest.main()
