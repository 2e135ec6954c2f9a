"""Point 6: rules that are alike, and pairs that tell rules apart."""

import copy
import random
import unittest

import literal
import looks
from orderrules.errors import BadRule, NotFound
from orderrules.rules import all_rules
from orderrules.telling import (
    classes, finer, mirrors, same, telling_pair, telling_table, ties_alike,
)
from samples import P, Q, WRONG_FAMILIES, WRONG_RULES, rule

RULES = all_rules()
TWO_RULES = (same, telling_pair, mirrors, finer, ties_alike)

# Each pair of the 96 rules, by their places.
ALL_TWOS = [(one, other) for one in range(96) for other in range(96)]
SOME_TWOS = ALL_TWOS[::13]


def columns():
    """Return, for each of the 96 rules, what it tells of all pairs; and their signs."""
    rows = list(looks.walked().items())
    signs = [signs for _, (signs, _) in rows]
    return [[looks.told(each, seen) for seen, _ in rows] for each in RULES], signs


COLUMNS, SIGNS = columns()


def least_signs(one, other):
    """Return the least signs that tell two rules apart, by all pairs, or None."""
    return min([signs for this, that, signs in zip(COLUMNS[one], COLUMNS[other], SIGNS) if this != that],
               default=None)


class TellingPair(unittest.TestCase):
    def hold(self, one, other, signs):
        """Hold that a telling pair has so many signs, both ways round."""
        for this, that in ((one, other), (other, one)):
            pair = telling_pair(this, that)
            self.assertIs(type(pair), tuple)
            self.assertEqual(len(pair), 2)
            self.assertLessEqual(set(pair[0] + pair[1]), set(looks.PLAIN))
            self.assertNotEqual(literal.compare(one, *pair), literal.compare(other, *pair))
            self.assertEqual(len(pair[0] + pair[1]), signs, pair)

    def test_example(self):
        self.hold(P, Q, 2)

    def test_by_hand(self):
        self.hold(P, rule(turned=1), 1)
        self.hold(P, rule(ends="behind"), 1)
        self.hold(P, rule(bars="behind"), 2)
        self.hold(P, rule(case="together"), 2)
        self.hold(rule(case="together"), rule(case="last"), 2)
        # "1" and "10" part at their ends for signs.
        self.hold(rule(ends="behind"), rule(ends="behind", figures="numbers"), 3)
        self.hold(P, rule(figures="numbers"), 3)
        self.hold(rule(figures="numbers"), rule(figures="strict"), 3)
        # "A7" and "a07": the alphabet decides nothing, but figures do.
        self.hold(rule(case="last", figures="numbers"), rule(case="last", figures="strict"), 3)

    def test_long_ones(self):
        # A worth and signs that tell otherwise: "1" and "010".
        self.hold(P, rule(figures="strict"), 4)
        longest = max(least_signs(one, other) or 0 for one, other in ALL_TWOS)
        self.assertEqual(longest, 4)
        twos = [(one, other) for one, other in ALL_TWOS if least_signs(one, other) == longest]
        for one, other in twos:
            self.hold(RULES[one], RULES[other], longest)

    def test_spread_of_rules(self):
        for one, other in SOME_TWOS:
            if one != other:
                self.hold(RULES[one], RULES[other], least_signs(one, other))

    def test_none_shorter_by_trying_all_pairs(self):
        for one, other in ALL_TWOS[::29]:
            told = looks.tellings([RULES[one], RULES[other]], 4)
            shorter = [signs for (this, that), signs in told.items() if this != that]
            signs = least_signs(one, other)
            if one == other or signs > 4:
                self.assertEqual(shorter, [])
            else:
                self.assertEqual(min(shorter), signs)

    def test_not_found(self):
        for each in RULES:
            self.assertRaises(NotFound, telling_pair, each, each)
        for one, other in ALL_TWOS:
            if least_signs(one, other) is None:
                self.assertRaises(NotFound, telling_pair, RULES[one], RULES[other])


class Same(unittest.TestCase):
    def test_spread_of_rules(self):
        for one, other in SOME_TWOS:
            self.assertIs(same(RULES[one], RULES[other]), COLUMNS[one] == COLUMNS[other])

    def test_itself_and_neighbours(self):
        for place, each in enumerate(RULES):
            self.assertIs(same(each, each), True)
            after = RULES[(place + 1) % 96]
            self.assertIs(same(each, after), COLUMNS[place] == COLUMNS[(place + 1) % 96])

    def test_unlike_only_by_long_pairs(self):
        for one, other in ALL_TWOS:
            if (least_signs(one, other) or 0) >= 4:
                self.assertIs(same(RULES[one], RULES[other]), False)


class Families(unittest.TestCase):
    def families(self):
        chance = random.Random(4)
        yield from ([P], [P, P], [P, Q], [P, Q, P], [P] * 8, RULES[:8], RULES[::13], RULES[88:])
        for many in range(1, 9):
            for _ in range(4):
                few = [chance.randrange(96) for _ in range(4)]
                yield [RULES[chance.choice(few)] for _ in range(many)]

    def test_classes(self):
        for family in self.families():
            columns = [COLUMNS[RULES.index(each)] for each in family]
            expected = []
            for place, column in enumerate(columns):
                if column not in columns[:place]:
                    expected.append([at for at, other in enumerate(columns) if other == column])
            self.assertEqual(classes(family), expected)

    def test_classes_by_hand(self):
        self.assertEqual(classes([P]), [[0]])
        self.assertEqual(classes([P, P]), [[0, 1]])
        self.assertEqual(classes([P, Q, P]), [[0, 2], [1]])
        self.assertEqual(classes([Q, P, P, Q, rule(turned=1)]), [[0, 3], [1, 2], [4]])

    def test_table(self):
        for family in self.families():
            places = [RULES.index(each) for each in family]
            expected = [[least_signs(one, other) for other in places] for one in places]
            self.assertEqual(telling_table(family), expected)

    def test_table_by_hand(self):
        self.assertEqual(telling_table([P]), [[None]])
        self.assertEqual(telling_table([P, P]), [[None, None], [None, None]])
        self.assertEqual(telling_table([P, Q, P]), [[None, 2, None], [2, None, 2], [None, 2, None]])
        self.assertEqual(telling_table([P, rule(turned=1), rule(figures="numbers")]),
                         [[None, 1, 3], [1, None, 1], [3, 1, None]])

    def test_wrong_families(self):
        for function in (classes, telling_table):
            for value in WRONG_FAMILIES:
                with self.subTest(function=function.__name__, value=value):
                    self.assertRaises(BadRule, function, value)

    def test_arguments_stay_and_lists_are_new(self):
        family = [P, Q, P, rule(turned=1)]
        for function in (classes, telling_table):
            told = function(family)
            self.assertEqual(family, [P, Q, P, rule(turned=1)])
            kept = copy.deepcopy(told)
            self.assertEqual(len({id(row) for row in told}), len(told))
            for row in told:
                row.append(7)
            told.append([8])
            self.assertEqual(function(family), kept)


class Relations(unittest.TestCase):
    def test_mirrors(self):
        for one, other in SOME_TWOS:
            turned = [-told for told in COLUMNS[other]]
            self.assertIs(mirrors(RULES[one], RULES[other]), COLUMNS[one] == turned)
        for each in RULES:
            self.assertIs(mirrors(each, each), False)
            self.assertIs(mirrors(each, each[:4] + (1 - each[4],)), True)

    def test_mirrors_by_hand(self):
        self.assertIs(mirrors(P, Q), False)
        # Of a text and its beginning they tell the same, else the other way round.
        self.assertIs(mirrors(rule(ends="first"), rule(ends="behind", turned=1)), False)
        # What the one tells is turned by the other one, but not 0.
        self.assertIs(mirrors(rule(case="together"), rule(case="last", turned=1)), False)

    def test_finer(self):
        for one, other in SOME_TWOS:
            expected = all(that in (0, this) for this, that in zip(COLUMNS[one], COLUMNS[other]))
            self.assertIs(finer(RULES[one], RULES[other]), expected)
        for each in RULES:
            self.assertIs(finer(each, each), True)
            self.assertIs(finer(each, each[:4] + (1 - each[4],)), False)

    def test_finer_by_hand(self):
        self.assertIs(finer(rule(case="last"), rule(case="together")), True)
        self.assertIs(finer(rule(case="together"), rule(case="last")), False)
        self.assertIs(finer(rule(case="mixed"), rule(case="together")), False)
        self.assertIs(finer(rule(figures="strict"), rule(figures="numbers")), True)
        self.assertIs(finer(rule(figures="numbers"), rule(figures="strict")), False)
        self.assertIs(finer(P, rule(figures="numbers")), False)

    def test_all_that_are_finer(self):
        twos = [(one, other) for one, other in ALL_TWOS if one != other
                and all(that in (0, this) for this, that in zip(COLUMNS[one], COLUMNS[other]))]
        self.assertTrue(twos)
        for one, other in twos:
            self.assertIs(finer(RULES[one], RULES[other]), True)
            self.assertIs(finer(RULES[other], RULES[one]), False)

    def test_ties_alike(self):
        for one, other in SOME_TWOS:
            expected = all((this == 0) == (that == 0) for this, that in zip(COLUMNS[one], COLUMNS[other]))
            self.assertIs(ties_alike(RULES[one], RULES[other]), expected)

    def test_ties_alike_by_hand(self):
        self.assertIs(ties_alike(P, rule(case="last", figures="strict", turned=1)), True)
        self.assertIs(ties_alike(P, rule(case="mixed", ends="behind")), True)
        self.assertIs(ties_alike(rule(figures="numbers"), Q), True)
        self.assertIs(ties_alike(P, Q), False)
        self.assertIs(ties_alike(Q, P), False)
        self.assertIs(ties_alike(rule(case="together"), rule(case="together", figures="strict")), True)
        self.assertIs(ties_alike(rule(case="together"), rule(case="together", figures="numbers")), False)
        for each in RULES:
            self.assertIs(ties_alike(each, each), True)
            self.assertIs(ties_alike(each, each[:4] + (1 - each[4],)), True)

    def test_against_all_short_pairs(self):
        for one, other in ALL_TWOS[::53]:
            told = list(looks.tellings([RULES[one], RULES[other]], 5))
            # Two rules tell of a pair of 5 signs whatever they tell of any pair.
            self.assertIs(mirrors(RULES[one], RULES[other]), all(this == -that for this, that in told))
            self.assertIs(finer(RULES[one], RULES[other]), all(that in (0, this) for this, that in told))
            self.assertIs(ties_alike(RULES[one], RULES[other]),
                          all((this == 0) == (that == 0) for this, that in told))


class WrongRules(unittest.TestCase):
    def test_first_and_second(self):
        for function in TWO_RULES:
            for value in WRONG_RULES:
                with self.subTest(function=function.__name__, value=value):
                    self.assertRaises(BadRule, function, value, P)
                    self.assertRaises(BadRule, function, P, value)
                    self.assertRaises(BadRule, function, value, value)


if __name__ == "__main__":
    unittest.main()
