"""How long a call may take: the best of some calls, as other programs run, too."""

import time
import unittest

from orderrules.partings import all_partings, finding_plan, pair_for, signs_needed
from orderrules.reading import allows, bars, remains, sorters, sorts_so
from orderrules.rules import all_rules
from orderrules.steady import hides, two_compare, two_of, two_same
from orderrules.telling import (
    classes, finer, mirrors, same, telling_pair, telling_table, ties_alike,
)
from samples import P, rule

LAST = rule("last", "strict", "behind", "behind", 1)
EIGHT = [each for each in all_rules() if each[0] == "last" and each[1] == "strict"]
FOUR = [rule("mixed", "strict", ends="behind"), rule("last", ends="behind", turned=1),
        rule("last", bars="behind", ends="behind"), rule("last", "strict", ends="behind")]
LONG = ["aB07_" * 8] * 12


class Times(unittest.TestCase):
    def hold(self, seconds, function, *arguments):
        times = []
        for _ in range(5):
            start = time.perf_counter()
            function(*arguments)
            times.append(time.perf_counter() - start)
        with self.subTest(function=function.__name__):
            self.assertLess(min(times), seconds)

    def test_two_rules(self):
        for function in (same, mirrors, finer, ties_alike, hides, telling_pair):
            self.hold(0.1, function, P, LAST)
        self.hold(0.1, two_of, P, P)
        self.hold(0.1, two_same, P, LAST, LAST)
        self.hold(0.1, two_compare, P, LAST, "a" * 40, "a" * 39 + "b")
        self.hold(0.1, allows, LAST, LONG)
        self.hold(0.1, sorts_so, LAST, LONG, LONG)

    def test_eight_rules(self):
        self.assertEqual(len(EIGHT), 8)
        self.hold(1, classes, EIGHT)
        self.hold(1, telling_table, EIGHT)
        self.hold(1, remains, EIGHT, [LONG] * 20)
        self.hold(1, bars, EIGHT, [LONG] * 20)
        self.hold(1, sorters, EIGHT, LONG, LONG)

    def test_four_rules(self):
        self.hold(1, all_partings, FOUR)
        self.hold(1, pair_for, FOUR, all_partings(FOUR)[-1][0])
        self.hold(1, signs_needed, FOUR)
        self.hold(1, finding_plan, FOUR)


if __name__ == "__main__":
    unittest.main()
