"""Point 8 over the whole program, and all examples of the document."""

import copy
import unittest

import looks
from orderrules.comparing import compare, first_wrong, pieces_of, sorted_by
from orderrules.counting import count_ahead, count_beside, count_same
from orderrules.errors import BadNumber, BadRule, BadText, NotFound
from orderrules.forms import format_rule, parse_rule
from orderrules.partings import all_partings, finding_plan, pair_for, signs_needed
from orderrules.reading import allows, bars, remains, sorters, sorts_so
from orderrules.rules import all_rules, is_rule
from orderrules.shelves import Shelf
from orderrules.signs import is_text, plain_texts
from orderrules.steady import hides, two_compare, two_of, two_same
from orderrules.telling import (
    classes, finer, mirrors, same, telling_pair, telling_table, ties_alike,
)
from orderrules.ties import first_tie, parts_all
from samples import P, Q, rule

TURNED = rule(turned=1)
FOUR = [P, Q, TURNED, P]
TEXTS = ["b10", "B9", "b9", "a"]
NUMBERS = rule(figures="numbers")


def put_all(each, texts):
    """Return what a shelf tells when texts were put there, and are taken away again."""
    shelf = Shelf(each)
    told = [[shelf.put(text) for text in texts], shelf.texts(), shelf.beside(texts[0]), len(shelf)]
    return told + [shelf.place(texts[-1]), [shelf.undo() for _ in texts], shelf.texts()]


# Each function of the interface, with arguments for which it returns something.
CALLS = [
    (is_text, "a"), (is_text, ["a"]), (plain_texts, 0), (plain_texts, 2), (is_rule, P), (is_rule, list(P)),
    (all_rules,), (pieces_of, Q, "b10_7"), (pieces_of, P, ""), (compare, Q, "B", "a"), (sorted_by, Q, TEXTS),
    (sorted_by, TURNED, TEXTS), (first_wrong, Q, TEXTS), (allows, P, TEXTS), (remains, FOUR, [TEXTS, ["a"]]),
    (bars, FOUR, [TEXTS, ["a"]]),
    (sorts_so, Q, TEXTS, ["a", "B9", "b9", "b10"]), (sorters, FOUR, TEXTS, ["a", "B9", "b9", "b10"]),
    (same, P, Q), (telling_pair, P, Q), (classes, FOUR), (classes, FOUR * 2), (telling_table, FOUR),
    (mirrors, P, TURNED), (finer, P, Q), (ties_alike, P, Q), (all_partings, FOUR),
    (pair_for, FOUR, [[0, 1, 3], [2]]), (signs_needed, FOUR),
    (finding_plan, FOUR), (finding_plan, [P]), (two_compare, P, Q, "a", "A"), (two_same, P, Q, Q), (two_of, P, NUMBERS),
    (hides, P, Q), (parts_all, P), (first_tie, Q), (count_ahead, Q, "a07", 20), (count_beside, Q, "a07", 20),
    (count_same, P, Q, 6), (format_rule, Q), (parse_rule, "last numbers ahead first 0"), (put_all, Q, TEXTS),
]


def lists_in(value):
    """Return the list of all lists in a value, itself included."""
    if not isinstance(value, (list, tuple)):
        return []
    found = [value] if isinstance(value, list) else []
    return found + [inner for item in value for inner in lists_in(item)]


class Examples(unittest.TestCase):
    def test_comparing(self):
        self.assertEqual(sorted_by(Q, ["b10", "B9", "b9", "a"]), ["a", "B9", "b9", "b10"])

    def test_telling(self):
        pair = telling_pair(P, Q)
        self.assertEqual(len(pair[0]) + len(pair[1]), 2)
        self.assertNotEqual(compare(P, *pair), compare(Q, *pair))
        self.assertNotEqual(compare(P, "B", "a"), compare(Q, "B", "a"))

    def test_steady(self):
        self.assertEqual(two_of(("mixed", "signs", "ahead", "first", 0), ("together", "signs", "ahead", "first", 0)),
                         ("last", "signs", "ahead", "first", 0))

    def test_ties(self):
        self.assertIs(parts_all(P), True)

    def test_counting(self):
        self.assertEqual(count_ahead(P, "a", 1), 5)

    def test_forms(self):
        self.assertEqual(format_rule(P), "apart signs ahead first 0")
        self.assertEqual(parse_rule("apart signs ahead first 0"), P)

    def test_points(self):
        # Point 4: "07" and "7" are the same. Point 1: seven plain signs.
        self.assertEqual(compare(NUMBERS, "07", "7"), 0)
        self.assertEqual(plain_texts(1), ["0", "1", "A", "B", "_", "a", "b"])
        self.assertEqual(len(all_rules()), 96)


class Arguments(unittest.TestCase):
    def test_they_are_not_changed(self):
        for function, *arguments in CALLS:
            with self.subTest(function=function.__name__):
                kept = copy.deepcopy(arguments)
                function(*arguments)
                self.assertEqual(arguments, kept)

    def test_answers_depend_on_them_alone(self):
        told = [function(*arguments) for function, *arguments in CALLS]
        again = [function(*arguments) for function, *arguments in reversed(CALLS)][::-1]
        self.assertEqual(told, again)

    def test_lists_are_new(self):
        for function, *arguments in CALLS:
            with self.subTest(function=function.__name__):
                told, again = function(*arguments), function(*arguments)
                kept = copy.deepcopy(told)
                lists, others = lists_in(told), lists_in(again) + lists_in(arguments)
                self.assertEqual(len({id(each) for each in lists}), len(lists))
                self.assertFalse({id(each) for each in lists} & {id(each) for each in others})
                for each in lists:
                    each.append("more")
                self.assertEqual(function(*arguments), kept)

    def test_a_rule_is_told_by_its_items(self):
        # Rules and texts that are put together anew tell the same.
        for function, *arguments in CALLS:
            self.assertEqual(function(*copy.deepcopy(arguments)), function(*arguments))


class WhichComesFirst(unittest.TestCase):
    def test_rules_and_texts_ahead_of_numbers(self):
        self.assertRaises(BadRule, count_ahead, None, None, None)
        self.assertRaises(BadText, count_ahead, P, None, None)
        self.assertRaises(BadNumber, count_ahead, P, "a", None)
        self.assertRaises(BadRule, count_beside, list(P), "-", -1)
        self.assertRaises(BadText, count_beside, P, "-", -1)
        self.assertRaises(BadNumber, count_beside, P, "a", -1)
        self.assertRaises(BadRule, count_same, P, None, -1)
        self.assertRaises(BadRule, count_same, None, P, -1)
        self.assertRaises(BadNumber, count_same, P, P, 7)

    def test_in_the_order_of_the_arguments(self):
        self.assertRaises(BadRule, two_compare, P, None, None, None)
        self.assertRaises(BadText, two_compare, P, P, "a", None)
        self.assertRaises(BadRule, remains, [], [])
        self.assertRaises(BadText, remains, [P], [])
        self.assertRaises(BadRule, sorters, [None], None, None)
        self.assertRaises(BadText, sorters, [P], ["a"], [])
        self.assertRaises(BadRule, compare, P[:4], "-", "-")

    def test_not_found_is_last(self):
        self.assertRaises(BadRule, telling_pair, P, None)
        self.assertRaises(NotFound, telling_pair, P, P)
        self.assertRaises(BadRule, two_of, P, None)
        self.assertRaises(BadRule, pair_for, [P, None], None)
        self.assertRaises(NotFound, pair_for, [P] * 5, None)
        self.assertRaises(BadRule, first_tie, P + (0,))
        self.assertRaises(NotFound, first_tie, P)
        shelf = Shelf(P)
        self.assertRaises(BadText, shelf.place, "-")
        self.assertRaises(NotFound, shelf.place, "a")

    def test_true_and_false_are_no_numbers(self):
        for value in (True, False):
            self.assertIs(is_rule(P[:4] + (value,)), False)
            self.assertRaises(BadNumber, plain_texts, value)
            self.assertRaises(BadNumber, count_ahead, P, "a", value)
            self.assertRaises(BadNumber, count_beside, P, "a", value)
            self.assertRaises(BadNumber, count_same, P, P, value)
            self.assertRaises(BadRule, Shelf, P[:4] + (value,))
            self.assertRaises(BadRule, format_rule, P[:4] + (value,))


class Together(unittest.TestCase):
    """What one file tells holds with what others tell."""

    def test_ties_and_relations(self):
        for one in all_rules()[::5]:
            for other in all_rules()[::7]:
                if ties_alike(one, other):
                    self.assertEqual(parts_all(one), parts_all(other))
                if parts_all(one) and finer(other, one):
                    self.assertTrue(same(one, other))
                # What parts all is not changed by what was sorted ahead of it.
                if parts_all(other):
                    self.assertTrue(hides(one, other))

    def test_counts_and_relations(self):
        for one in all_rules()[::5]:
            for other in all_rules()[::7]:
                same_length = [len(looks.PLAIN) ** (2 * length) for length in range(7)]
                counts = [count_same(one, other, length) for length in range(7)]
                if same(one, other):
                    self.assertEqual(counts, same_length)
                if mirrors(one, other) and parts_all(one):
                    self.assertEqual(counts, [len(looks.PLAIN) ** length for length in range(7)])
                for length in range(7):
                    self.assertLessEqual(counts[length], same_length[length])

    def test_shelf_and_counts(self):
        for each in all_rules()[::5]:
            shelf = Shelf(each)
            for text in plain_texts(2) + plain_texts(2):
                if len(shelf) < 98:
                    shelf.put(text)
            for text in ("", "a", "0", "aB", "01", "z9", "_7"):
                self.assertEqual(len(shelf.beside(text)), 2 * count_beside(each, text, 2))
            first = shelf.texts()[0]
            self.assertEqual(count_ahead(each, first, 2), 0)

    def test_first_tie_and_counts(self):
        for each in all_rules():
            if not parts_all(each):
                one, other = first_tie(each)
                for length in (0, 3, 20):
                    self.assertEqual(count_ahead(each, one, length), count_ahead(each, other, length))
                    self.assertEqual(count_beside(each, one, length), count_beside(each, other, length))
                self.assertGreater(count_beside(each, one, max(len(one), len(other))), 0)


if __name__ == "__main__":
    unittest.main()
