"""How long calls may take: the best of some rows of calls, as other programs run, too.

The limits are those that were asked for; the calls take far less.
"""

import time
import unittest

from orderrules.counting import count_ahead, count_beside, count_same
from orderrules.forms import format_rule, parse_rule
from orderrules.partings import all_partings, finding_plan, pair_for, signs_needed
from orderrules.reading import allows, bars, remains, sorters, sorts_so
from orderrules.rules import all_rules
from orderrules.shelves import Shelf
from orderrules.steady import hides, two_compare, two_of, two_same
from orderrules.telling import (
    classes, finer, mirrors, same, telling_pair, telling_table, ties_alike,
)
from orderrules.ties import first_tie, parts_all
from samples import P, rule

LAST = rule("last", "strict", "behind", "behind", 1)
EIGHT = [each for each in all_rules() if each[0] == "last" and each[1] == "strict"]
FOUR = [rule("mixed", "strict", ends="behind"), rule("last", ends="behind", turned=1),
        rule("last", bars="behind", ends="behind"), rule("last", "strict", ends="behind")]
LONG = ["aB07_" * 8] * 12


class Times(unittest.TestCase):
    def hold(self, seconds, calls, function, *arguments):
        """Hold that a row of calls takes less than some seconds."""
        times = []
        for _ in range(3):
            start = time.perf_counter()
            for _ in range(calls):
                function(*arguments)
            times.append(time.perf_counter() - start)
            if times[-1] < seconds:
                break
        with self.subTest(function=function.__name__, arguments=arguments):
            self.assertLess(min(times), seconds)

    def test_reading(self):
        self.hold(0.1, 1, two_compare, P, LAST, "a" * 40, "a" * 39 + "b")
        self.hold(0.1, 1, allows, LAST, LONG)
        self.hold(0.1, 1, sorts_so, LAST, LONG, LONG)
        self.hold(1, 1, remains, EIGHT, [LONG] * 20)
        self.hold(1, 1, bars, EIGHT, [LONG] * 20)
        self.hold(1, 1, sorters, EIGHT, LONG, LONG)

    def test_two_rules(self):
        for function in (same, mirrors, finer, ties_alike, telling_pair):
            for one, other in ((P, LAST), (EIGHT[0], EIGHT[1]), (EIGHT[-1], rule("last", turned=1))):
                self.hold(0.5, 1000, function, one, other)
        for function in (same, mirrors, finer, ties_alike):
            self.hold(0.5, 1000, function, LAST, LAST)

    def test_eight_rules(self):
        self.assertEqual(len(EIGHT), 8)
        for family in (EIGHT, all_rules()[::13]):
            self.hold(0.2, 100, classes, family)
            self.hold(0.2, 100, telling_table, family)

    def test_four_rules(self):
        for family in (FOUR, EIGHT[::2], all_rules()[::25]):
            self.hold(0.2, 100, all_partings, family)
            self.hold(0.2, 100, pair_for, family, all_partings(family)[-1][0])
            self.hold(0.2, 100, signs_needed, family)
            self.hold(0.2, 100, finding_plan, family)

    def test_steady(self):
        for one, other in ((P, LAST), (LAST, LAST), (rule("mixed", "numbers"), rule("together"))):
            self.hold(0.2, 100, hides, one, other)
            self.hold(0.2, 100, two_same, one, other, LAST)
        self.hold(0.2, 100, two_of, P, LAST)
        self.hold(0.2, 100, two_of, LAST, LAST)

    def test_ties_and_forms(self):
        for function in (parts_all, format_rule):
            self.hold(0.5, 1000, function, LAST)
        self.hold(0.5, 1000, first_tie, rule("apart", "numbers", "behind", "behind", 1))
        self.hold(0.5, 1000, parse_rule, format_rule(LAST))

    def test_counting(self):
        for text in ("0_" * 20, "0a1A" * 10, "aB07_" * 8, "0" * 40, "01" * 20, "a" * 40):
            for each in (P, LAST, rule("together", "numbers", ends="behind", turned=1)):
                self.hold(0.15, 100, count_ahead, each, text, 20)
                self.hold(0.15, 100, count_beside, each, text, 20)
        self.hold(0.2, 100, count_same, P, LAST, 4)
        self.hold(0.2, 100, count_same, LAST, EIGHT[0], 6)

    def test_shelf(self):
        shelf = Shelf(LAST)
        for _ in range(99):
            shelf.put("aB07_" * 8)
        self.hold(0.5, 1000, self.put_and_undo, shelf)
        self.hold(0.5, 1000, shelf.texts)
        self.hold(0.5, 1000, shelf.place, "aB07_" * 8)
        self.hold(0.5, 1000, shelf.beside, "aB07_" * 8)
        self.hold(0.5, 1000, len, shelf)

    def put_and_undo(self, shelf):
        shelf.put("aB007" * 8)
        shelf.undo()


if __name__ == "__main__":
    unittest.main()
