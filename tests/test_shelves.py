"""The interface of shelves.py: a shelf that keeps texts in order."""

import random
import unittest

import literal
from orderrules.comparing import sorted_by
from orderrules.errors import BadNumber, BadRule, BadText, NotFound
from orderrules.rules import all_rules
from orderrules.shelves import Shelf
from samples import MANY_TEXTS, P, Q, WRONG_RULES, WRONG_TEXTS, rule

RULES = all_rules()
TOGETHER = rule("together", "numbers")

# Many of these are beside one another, and some come twice.
NEAR = ["a", "A", "a", "0", "00", "a0", "A00", "a00", "", "_", "b", "B", "b", "1", "01", "a_0", "A_00", "Ab", "aB"]


class Plain:
    """A shelf that is a list of texts and a list of puts, by the words of the document."""

    def __init__(self, each):
        self.rule, self.kept, self.puts = each, [], []

    def put(self, text):
        told = [literal.compare(self.rule, other[0], text) for other in self.kept]
        place = len([answer for answer in told if answer in (-1, 0)])
        entry = [text]
        self.kept.insert(place, entry)
        self.puts.append(entry)
        return place

    def texts(self):
        return [entry[0] for entry in self.kept]

    def beside(self, text):
        return [other for other in self.texts() if literal.compare(self.rule, other, text) == 0]

    def undo(self):
        entry = self.puts.pop()
        self.kept = [other for other in self.kept if other is not entry]
        return entry[0]


class Shelves(unittest.TestCase):
    def same(self, shelf, plain, asked):
        self.assertEqual(shelf.texts(), plain.texts())
        self.assertEqual(len(shelf), len(plain.texts()))
        for text in asked:
            self.assertEqual(shelf.beside(text), plain.beside(text))
            if text in plain.texts():
                self.assertEqual(shelf.place(text), plain.texts().index(text))
            else:
                self.assertRaises(NotFound, shelf.place, text)

    def test_new_shelf(self):
        for each in RULES:
            shelf = Shelf(each)
            self.assertEqual(shelf.texts(), [])
            self.assertEqual(len(shelf), 0)
            self.assertEqual(shelf.beside("a"), [])
            self.assertRaises(NotFound, shelf.place, "a")
            self.assertRaises(NotFound, shelf.place, "")
            self.assertRaises(NotFound, shelf.undo)

    def test_by_hand(self):
        shelf = Shelf(Q)
        self.assertEqual([shelf.put(text) for text in ("b10", "B9", "b9", "a")], [0, 0, 1, 0])
        self.assertEqual(shelf.texts(), ["a", "B9", "b9", "b10"])
        self.assertEqual(shelf.place("b9"), 2)
        self.assertEqual(shelf.put("b09"), 3)
        self.assertEqual(shelf.beside("b009"), ["b9", "b09"])
        self.assertRaises(NotFound, shelf.place, "b009")
        self.assertEqual(shelf.undo(), "b09")
        self.assertEqual(shelf.undo(), "a")
        self.assertEqual(shelf.texts(), ["B9", "b9", "b10"])

    def test_behind_all_that_are_beside_it(self):
        shelf = Shelf(TOGETHER)
        self.assertEqual([shelf.put(text) for text in ("a0", "A0", "b", "a00", "a0")], [0, 1, 2, 2, 3])
        self.assertEqual(shelf.texts(), ["a0", "A0", "a00", "a0", "b"])
        self.assertEqual(shelf.beside("A000"), ["a0", "A0", "a00", "a0"])
        self.assertEqual(shelf.beside("b"), ["b"])
        self.assertEqual(shelf.beside("B"), ["b"])
        self.assertEqual(shelf.beside("c"), [])

    def test_place_is_of_the_same_text_and_the_first(self):
        shelf = Shelf(TOGETHER)
        for text in ("A", "a", "A", "a", "_"):
            shelf.put(text)
        self.assertEqual(shelf.texts(), ["_", "A", "a", "A", "a"])
        self.assertEqual(shelf.place("A"), 1)
        self.assertEqual(shelf.place("a"), 2)
        shelf.undo()
        shelf.undo()
        self.assertEqual(shelf.texts(), ["A", "a", "A"])
        self.assertEqual(shelf.place("a"), 1)

    def test_undo_takes_the_last_of_like_texts(self):
        shelf = Shelf(rule("together"))
        for text in ("a", "A", "a"):
            shelf.put(text)
        self.assertEqual([shelf.undo(), shelf.texts()], ["a", ["a", "A"]])
        self.assertEqual([shelf.undo(), shelf.texts()], ["A", ["a"]])
        self.assertEqual([shelf.undo(), shelf.texts()], ["a", []])
        self.assertRaises(NotFound, shelf.undo)
        self.assertEqual(shelf.put("b"), 0)

    def test_against_a_plain_list(self):
        chance = random.Random(9)
        for each in RULES:
            shelf, plain = Shelf(each), Plain(each)
            for _ in range(60):
                if plain.puts and chance.random() < 0.3:
                    self.assertEqual(shelf.undo(), plain.undo())
                else:
                    text = chance.choice(NEAR if chance.random() < 0.7 else MANY_TEXTS)
                    self.assertEqual(shelf.put(text), plain.put(text))
                self.same(shelf, plain, [chance.choice(NEAR), chance.choice(MANY_TEXTS)])
            while plain.puts:
                self.assertEqual(shelf.undo(), plain.undo())
                self.same(shelf, plain, ["a"])

    def test_texts_are_sorted(self):
        for each in RULES[::5]:
            shelf = Shelf(each)
            for text in NEAR[:12]:
                shelf.put(text)
            self.assertEqual(shelf.texts(), sorted_by(each, NEAR[:12]))

    def test_two_shelves(self):
        one, other = Shelf(P), Shelf(rule(turned=1))
        for text in ("b", "a", "B"):
            one.put(text)
            other.put(text)
        one.put("_")
        self.assertEqual(one.texts(), ["_", "B", "a", "b"])
        self.assertEqual(other.texts(), ["b", "a", "B"])
        self.assertEqual(other.undo(), "B")
        self.assertEqual(len(one), 4)
        self.assertEqual(one.undo(), "_")
        self.assertEqual(other.texts(), ["b", "a"])
        self.assertRaises(NotFound, other.place, "B")

    def test_lists_are_new(self):
        shelf = Shelf(TOGETHER)
        for text in NEAR:
            shelf.put(text)
        kept, beside = shelf.texts(), shelf.beside("a")
        shelf.texts().clear()
        shelf.texts().append("z")
        shelf.beside("a").clear()
        self.assertEqual(shelf.texts(), kept)
        self.assertEqual(shelf.beside("a"), beside)
        self.assertEqual(len(shelf), len(NEAR))
        self.assertIsNot(shelf.texts(), shelf.texts())
        self.assertIsNot(shelf.beside("a"), shelf.beside("a"))


class WrongArguments(unittest.TestCase):
    def unchanged(self, shelf, error, method, *arguments):
        kept, many = shelf.texts(), len(shelf)
        self.assertRaises(error, method, *arguments)
        self.assertEqual(shelf.texts(), kept)
        self.assertEqual(len(shelf), many)

    def test_rules(self):
        for value in WRONG_RULES:
            with self.subTest(value=value):
                self.assertRaises(BadRule, Shelf, value)

    def test_texts(self):
        for shelf in (Shelf(P), Shelf(Q)):
            for text in NEAR[:5]:
                shelf.put(text)
            for value in WRONG_TEXTS:
                with self.subTest(value=value):
                    self.unchanged(shelf, BadText, shelf.put, value)
                    self.unchanged(shelf, BadText, shelf.place, value)
                    self.unchanged(shelf, BadText, shelf.beside, value)
            self.unchanged(shelf, NotFound, shelf.place, "zz")
            self.assertEqual([shelf.undo() for _ in range(5)], NEAR[4::-1])
            self.unchanged(shelf, NotFound, shelf.undo)
            for value in WRONG_TEXTS:
                self.unchanged(shelf, BadText, shelf.place, value)

    def test_at_most_100(self):
        for each in (P, TOGETHER, rule("last", "strict", "behind", "behind", 1)):
            shelf, plain = Shelf(each), Plain(each)
            chance = random.Random(10)
            for _ in range(100):
                text = chance.choice(NEAR + MANY_TEXTS)
                self.assertEqual(shelf.put(text), plain.put(text))
            self.assertEqual(len(shelf), 100)
            self.unchanged(shelf, BadNumber, shelf.put, "a")
            self.unchanged(shelf, BadNumber, shelf.put, "")
            for value in WRONG_TEXTS:
                self.unchanged(shelf, BadText, shelf.put, value)
            self.assertEqual(shelf.texts(), plain.texts())
            # What was not put is not taken away.
            self.assertEqual(shelf.undo(), plain.undo())
            self.assertEqual(shelf.texts(), plain.texts())
            self.assertEqual(shelf.put("a"), plain.put("a"))
            self.unchanged(shelf, BadNumber, shelf.put, "b")
            self.assertEqual(shelf.texts(), plain.texts())

    def test_100_like_texts(self):
        shelf = Shelf(P)
        self.assertEqual([shelf.put("a") for _ in range(100)], list(range(100)))
        self.assertRaises(BadNumber, shelf.put, "a")
        self.assertEqual(shelf.beside("a"), ["a"] * 100)
        self.assertEqual(shelf.place("a"), 0)


if __name__ == "__main__":
    unittest.main()
