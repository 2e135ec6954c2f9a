"""Point 7: partings, and finding a hidden rule."""

import copy
import random
import unittest

import literal
import looks
from orderrules.errors import BadRule, NotFound
from orderrules.partings import all_partings, finding_plan, pair_for, signs_needed
from orderrules.rules import all_rules
from samples import P, Q, WRONG_FAMILIES, WRONG_PARTINGS, rule

RULES = all_rules()
TURNED = rule(turned=1)
NUMBERS = rule(figures="numbers")
STRICT = rule(figures="strict")

# Families with partings that need pairs of 8 signs.
FAR = [
    [rule(ends="behind"), rule(bars="behind", turned=1),
     rule("mixed", "strict", "behind", turned=1), rule("together", "strict", "behind", turned=1)],
    [rule(bars="behind", ends="behind"), rule("mixed"), rule("mixed", "numbers"), rule("together", "numbers")],
    [rule("mixed", ends="behind"), rule("mixed", bars="behind"),
     rule("mixed", "strict", "behind", "behind"), rule("together", "numbers", "behind", "behind")],
    [rule("mixed", "strict", ends="behind"), rule("last", ends="behind", turned=1),
     rule("last", bars="behind", ends="behind"), rule("last", "strict", ends="behind")],
]


def some_families():
    """Return a list of families of 1 to 4 rules, like rules among them."""
    chance = random.Random(5)
    families = [
        [P], [P, P], [P] * 4, [P, Q], [Q, P], [P, Q, P], [P, TURNED], [P, TURNED, P, TURNED],
        [P, NUMBERS, STRICT, Q], [NUMBERS, NUMBERS, STRICT, P], RULES[:4], RULES[92:], RULES[::32],
    ]
    for many in (2, 3, 3, 4, 4, 4, 4):
        families += [[chance.choice(RULES) for _ in range(many)] for _ in range(4)]
    # Rules that are near one another are told apart by longer pairs.
    for _ in range(12):
        near = [each for each in RULES if each[2:] == chance.choice(RULES)[2:]]
        families.append(chance.sample(near, 4))
    for figures in ("numbers", "strict"):
        families.append([rule(figures=figures, bars=bars, ends=ends)
                         for bars in ("ahead", "behind") for ends in ("first", "behind")])
    return families + FAR


FAMILIES = some_families()


def parting_of(told):
    """Return the groups of places of like answers, ascending."""
    return sorted([[at for at, other in enumerate(told) if other == answer] for answer in set(told)])


def partings_of(tellings):
    """Return the list of tuples (parting, signs), ascending by signs, then as lists."""
    least = {}
    for told, signs in tellings.items():
        name = str(parting_of(told))
        if name not in least or signs < least[name][0]:
            least[name] = (signs, parting_of(told))
    return [(parting, signs) for signs, parting in sorted(least.values())]


def needed(tellings, left, known):
    """Return the signs needed to find a rule of those left, by all ways to ask."""
    if left not in known:
        ways = []
        for told, signs in tellings.items():
            groups = {frozenset(at for at in left if told[at] == answer) for answer in (-1, 0, 1)}
            groups.discard(frozenset())
            if len(groups) > 1:
                ways.append(signs + max(needed(tellings, group, known) for group in groups))
        known[left] = min(ways, default=0)
    return known[left]


def signs_of_plan(plan):
    """Return the signs that a plan asks at worst."""
    if plan[0] == "left":
        return 0
    return len(plan[1][0] + plan[1][1]) + max(signs_of_plan(behind) for _, behind in plan[2])


class AllPartings(unittest.TestCase):
    def test_one_rule(self):
        for each in RULES[::11]:
            self.assertEqual(all_partings([each]), [([[0]], 0)])

    def test_like_rules(self):
        self.assertEqual(all_partings([P, P]), [([[0, 1]], 0)])
        self.assertEqual(all_partings([P] * 4), [([[0, 1, 2, 3]], 0)])

    def test_two_rules(self):
        self.assertEqual(all_partings([P, TURNED]), [([[0, 1]], 0), ([[0], [1]], 1)])
        self.assertEqual(all_partings([P, Q]), [([[0, 1]], 0), ([[0], [1]], 2)])
        self.assertEqual(all_partings([P, NUMBERS]), [([[0, 1]], 0), ([[0], [1]], 3)])

    def test_three_groups(self):
        # "A" and "a": first, behind, beside one another.
        family = [P, TURNED, rule(case="together")]
        self.assertIn(([[0], [1], [2]], 2), all_partings(family))
        self.assertEqual(all_partings(family)[:3],
                         [([[0, 1, 2]], 0), ([[0, 2], [1]], 1), ([[0], [1], [2]], 2)])

    def test_sequence(self):
        # Of like signs, the lists decide, and not the answers.
        for family in FAMILIES:
            found = [(signs, parting) for parting, signs in all_partings(family)]
            self.assertEqual(found, sorted(found))

    def test_against_all_pairs(self):
        for family in FAMILIES:
            with self.subTest(family=family):
                self.assertEqual(all_partings(family), partings_of(looks.tellings(family)))

    def test_against_trying_all_short_pairs(self):
        for family in FAMILIES[::3]:
            tried = partings_of(looks.tellings(family, 5))
            self.assertEqual([found for found in all_partings(family) if found[1] <= 5], tried)

    def test_far(self):
        for family in FAR:
            self.assertEqual(all_partings(family)[-1][1], 8)

    def test_kinds(self):
        for family in FAMILIES[::5]:
            found = all_partings(family)
            self.assertIs(type(found), list)
            for each in found:
                self.assertIs(type(each), tuple)
                parting, signs = each
                self.assertIs(type(signs), int)
                self.assertEqual(sorted(sum(parting, [])), list(range(len(family))))
                self.assertEqual(parting, sorted(sorted(group) for group in parting))

    def test_new_lists(self):
        kept = all_partings([P, Q, TURNED])
        told = all_partings([P, Q, TURNED])
        self.assertEqual(told, kept)
        lists = [told] + [parting for parting, _ in told]
        lists += [group for parting, _ in told for group in parting]
        self.assertEqual(len({id(each) for each in lists}), len(lists))
        for each in lists:
            each.append(9)
        self.assertEqual(all_partings([P, Q, TURNED]), kept)


class PairFor(unittest.TestCase):
    def test_each_parting(self):
        for family in FAMILIES:
            for parting, signs in partings_of(looks.tellings(family)):
                kept = copy.deepcopy(parting)
                pair = pair_for(family, parting)
                self.assertEqual(parting, kept)
                self.assertIs(type(pair), tuple)
                self.assertEqual(len(pair[0] + pair[1]), signs)
                self.assertLessEqual(set(pair[0] + pair[1]), set(looks.PLAIN))
                told = [literal.compare(each, *pair) for each in family]
                self.assertEqual(parting_of(told), parting)

    def test_blank_pair(self):
        self.assertEqual(pair_for([P], [[0]]), ("", ""))
        self.assertEqual(pair_for([P, Q], [[0, 1]]), ("", ""))

    def test_no_such_parting(self):
        self.assertRaises(NotFound, pair_for, [P, P], [[0], [1]])
        self.assertRaises(NotFound, pair_for, [P, Q, P], [[0, 1], [2]])
        self.assertRaises(NotFound, pair_for, [P, Q, NUMBERS, STRICT], [[0], [1], [2], [3]])
        self.assertRaises(NotFound, pair_for, [P], [[0], [1]])

    def test_no_pair_makes_it(self):
        partings = [[[0], [1], [2]], [[0], [1, 2]], [[0, 1], [2]], [[0, 2], [1]], [[0, 1, 2]]]
        for family in FAMILIES:
            if len(family) == 3:
                made = [parting for parting, _ in partings_of(looks.tellings(family))]
                for parting in partings:
                    if parting not in made:
                        self.assertRaises(NotFound, pair_for, family, parting)

    def test_other_values(self):
        for value in WRONG_PARTINGS:
            with self.subTest(value=value):
                self.assertRaises(NotFound, pair_for, [P, Q], value)
        round_about = []
        round_about.append(round_about)
        self.assertRaises(NotFound, pair_for, [P, Q], round_about)

    def test_true_and_false_are_no_places(self):
        self.assertRaises(NotFound, pair_for, [P], [[False]])
        self.assertRaises(NotFound, pair_for, [P, Q], [[0, True]])
        self.assertRaises(NotFound, pair_for, [P, Q, TURNED], [[False], [1, 2]])


class Finding(unittest.TestCase):
    def test_one_rule_and_like_rules(self):
        for family in ([P], [P, P], [Q] * 4):
            self.assertEqual(signs_needed(family), 0)
            self.assertEqual(finding_plan(family), ("left", list(range(len(family)))))

    def test_two_rules(self):
        self.assertEqual(signs_needed([P, TURNED]), 1)
        self.assertEqual(signs_needed([P, Q]), 2)
        self.assertEqual(signs_needed([P, NUMBERS]), 3)
        self.assertEqual(signs_needed([P, STRICT]), 4)

    def test_like_rules_among_others(self):
        self.assertEqual(signs_needed([P, Q, P]), 2)
        self.assertEqual(signs_needed([P, TURNED, P, TURNED]), 1)
        word, pair, parts = finding_plan([P, TURNED, P, TURNED])
        self.assertEqual(word, "ask")
        self.assertEqual(sorted(behind for _, behind in parts), [("left", [0, 2]), ("left", [1, 3])])
        self.assertEqual(len(pair[0] + pair[1]), 1)

    def test_one_pair_for_three(self):
        self.assertEqual(signs_needed([P, TURNED, rule(case="together")]), 2)

    def test_signs_needed(self):
        for family in FAMILIES:
            with self.subTest(family=family):
                tellings = looks.tellings(family)
                expected = needed(tellings, frozenset(range(len(family))), {})
                self.assertEqual(signs_needed(family), expected)
                self.assertIs(type(signs_needed(family)), int)

    def test_what_was_told_counts(self):
        # Asking all that is ever asked, whatever was told, takes more signs.
        family = [P, NUMBERS, TURNED, rule(case="mixed", turned=1)]
        word, _, parts = finding_plan(family)
        self.assertEqual(word, "ask")
        self.assertEqual(sorted(signs_of_plan(behind) for _, behind in parts), [2, 3])
        self.assertEqual(signs_needed(family), 4)

    def test_plans(self):
        for family in FAMILIES:
            with self.subTest(family=family):
                plan = finding_plan(family)
                self.assertEqual(signs_of_plan(plan), signs_needed(family))
                self.hold(family, looks.tellings(family), plan, list(range(len(family))), {})

    def hold(self, family, tellings, plan, left, known):
        """Hold that a plan is as the document has it, for the places left."""
        self.assertIs(type(plan), tuple)
        self.assertEqual(signs_of_plan(plan), needed(tellings, frozenset(left), known))
        if plan[0] == "left":
            self.assertEqual(plan, ("left", left))
            for told in tellings:
                self.assertEqual(len({told[place] for place in left}), 1)
            return
        word, pair, parts = plan
        self.assertEqual(word, "ask")
        self.assertIs(type(pair), tuple)
        self.assertLessEqual(set(pair[0] + pair[1]), set(looks.PLAIN))
        told = {place: literal.compare(family[place], *pair) for place in left}
        self.assertIs(type(parts), list)
        self.assertGreaterEqual(len(parts), 2)
        self.assertEqual([answer for answer, _ in parts], sorted(set(told.values())))
        for part in parts:
            self.assertIs(type(part), tuple)
            answer, behind = part
            group = [place for place in left if told[place] == answer]
            self.hold(family, tellings, behind, group, known)

    def test_each_rule_is_found(self):
        for family in FAMILIES:
            for hidden, each in enumerate(family):
                plan, signs = finding_plan(family), 0
                while plan[0] == "ask":
                    _, pair, parts = plan
                    signs += len(pair[0] + pair[1])
                    plan = dict(parts)[literal.compare(each, *pair)]
                self.assertLessEqual(signs, signs_needed(family))
                self.assertIn(hidden, plan[1])
                self.assertEqual([family[place] for place in plan[1]].count(each), len(plan[1]))

    def test_arguments_stay_and_lists_are_new(self):
        family = [P, Q, TURNED, P]
        plan = finding_plan(family)
        self.assertEqual(family, [P, Q, TURNED, P])
        kept = copy.deepcopy(plan)
        lists = self.lists_of(plan)
        self.assertEqual(len({id(each) for each in lists}), len(lists))
        for each in lists:
            each.append(9)
        self.assertEqual(finding_plan(family), kept)
        alone = finding_plan([P])
        alone[1].append(9)
        self.assertEqual(finding_plan([P]), ("left", [0]))

    def lists_of(self, plan):
        if plan[0] == "left":
            return [plan[1]]
        return sum([self.lists_of(behind) for _, behind in plan[2]], [plan[2]])


class WrongFamilies(unittest.TestCase):
    FUNCTIONS = (all_partings, signs_needed, finding_plan, lambda family: pair_for(family, [[0]]),
                 lambda family: pair_for(family, None))

    def test_bad_rule(self):
        for function in self.FUNCTIONS:
            for value in WRONG_FAMILIES:
                with self.subTest(value=value):
                    self.assertRaises(BadRule, function, value)

    def test_too_many(self):
        for function in self.FUNCTIONS:
            for many in (5, 6, 7, 8):
                self.assertRaises(NotFound, function, RULES[:many])
                self.assertRaises(NotFound, function, [P] * many)
                self.assertRaises(BadRule, function, [P] * (many - 1) + [None])
            self.assertRaises(BadRule, function, RULES[:9])
        for many in range(5, 9):
            self.assertRaises(NotFound, pair_for, [P] * many, [list(range(many))])

    def test_four_are_not_too_many(self):
        self.assertEqual(pair_for([P] * 4, [[0, 1, 2, 3]]), ("", ""))


if __name__ == "__main__":
    unittest.main()
