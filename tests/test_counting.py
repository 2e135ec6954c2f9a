"""The interface of counting.py: plain texts ahead of a text or beside it, and pairs told alike."""

import functools
import itertools
import operator
import random
import unittest

import equal_lengths
import literal
import looks
import signwise
from orderrules.comparing import compare
from orderrules.counting import count_ahead, count_beside, count_same
from orderrules.errors import BadNumber, BadRule, BadText
from orderrules.pairs import PAIRS
from orderrules.rules import all_rules
from orderrules.shares import SHARES
from orderrules.signs import plain_texts
from samples import MANY_TEXTS, P, Q, WRONG_COUNTED, WRONG_RULES, WRONG_TEXTS, rule

RULES = all_rules()


def some_texts():
    """Return a list of texts of many kinds, of all lengths, signs that are not plain among them."""
    chance = random.Random(7)
    texts = set(MANY_TEXTS)
    for signs in ("01AB_ab", "0a", "01", "01_", "0A_a", "07Zz_a", "0001Aa_", "abAB", "012", "0012a_", "0123456789"):
        for longest in (3, 6, 12, 21, 25, 40):
            for _ in range(4):
                texts.add("".join(chance.choice(signs) for _ in range(chance.randint(0, longest))))
    return sorted(texts)


TEXTS = some_texts()


def turn(each):
    return each[:4] + (1 - each[4],)


@functools.cache
def ways(each, length):
    """Return the comparisons of all texts of a length with all, by the words of the document."""
    texts = plain_texts(length)
    place = {text: at for at, text in enumerate(texts)}
    key = functools.cmp_to_key(lambda one, other: literal.compare(each, one, other))
    ranks = [0] * len(texts)
    rank = 0
    for before, text in itertools.pairwise([None] + sorted(texts, key=key)):
        if before is not None and literal.compare(each, before, text) != 0:
            rank += 1
        ranks[place[text]] = rank
    return ranks


def same_by_ranks(one, other, length):
    """Return for how many pairs of texts of a length two rules tell the same, by trying all."""
    ranks, others = ways(one, length), ways(other, length)
    same = 0
    for this, that in zip(ranks, others):
        told = [literal.sign_of(this - rank) for rank in ranks]
        same += sum(map(operator.eq, told, [literal.sign_of(that - rank) for rank in others]))
    return same


class Short(unittest.TestCase):
    def hold(self, each, text, length):
        told = [literal.compare(each, other, text) for other in plain_texts(length)]
        counted = (count_ahead(each, text, length), count_beside(each, text, length))
        self.assertEqual(counted, (told.count(-1), told.count(0)), (each, text, length))

    def test_example(self):
        self.assertEqual(count_ahead(P, "a", 1), 5)

    def test_all_texts_of_length_0_and_1(self):
        for each in RULES:
            for text in TEXTS:
                self.hold(each, text, 0)
                self.hold(each, text, 1)

    def test_all_texts_of_length_2(self):
        for place, each in enumerate(RULES):
            for text in TEXTS[place % 3::3] + plain_texts(2)[place % 4::4]:
                self.hold(each, text, 2)

    def test_all_texts_of_length_3(self):
        for place, each in enumerate(RULES):
            for text in TEXTS[place % 40::40] + ["001", "01a", "0_A", "aA_"]:
                self.hold(each, text, 3)

    def test_all_texts_of_length_4(self):
        for place, each in enumerate(RULES):
            self.hold(each, ["0_00", "a01A", "01", "_", "0a0", "Ab_1", "007B"][place % 7], 4)

    def test_in_order(self):
        # All texts of a length stand in order: so many are ahead of each.
        for each in RULES[::5]:
            for length in (1, 2, 3):
                ranks = ways(each, length)
                texts = plain_texts(length)
                for place in range(0, len(texts), len(texts) // 7):
                    self.assertEqual(count_ahead(each, texts[place], length),
                                     len([rank for rank in ranks if rank < ranks[place]]))
                    self.assertEqual(count_beside(each, texts[place], length), ranks.count(ranks[place]))


class ByHand(unittest.TestCase):
    def test_length_0(self):
        for each in RULES:
            self.assertEqual(count_ahead(each, "", 0), 0)
            self.assertEqual(count_beside(each, "", 0), 1)
            self.assertEqual(count_beside(each, "a", 0), 0)
        self.assertEqual(count_ahead(P, "a", 0), 1)
        self.assertEqual(count_ahead(rule(turned=1), "a", 0), 0)
        self.assertEqual(count_ahead(rule(ends="behind"), "a", 0), 0)
        self.assertEqual(count_ahead(rule(ends="behind", turned=1), "a", 0), 1)

    def test_blank_text(self):
        for length in range(1, 21):
            self.assertEqual(count_ahead(P, "", length), 0)
            self.assertEqual(count_ahead(rule(turned=1), "", length), 7 ** length)
            self.assertEqual(count_ahead(rule(ends="behind"), "", length), 7 ** length)
            self.assertEqual(count_ahead(rule("last", "strict", ends="behind"), "", length), 7 ** length)
            for each in RULES[::7]:
                self.assertEqual(count_beside(each, "", length), 0)

    def test_long_ones(self):
        # With bars ahead the small letter stands behind all the others.
        self.assertEqual(count_ahead(P, "b" * 20, 20), 7 ** 20 - 1)
        self.assertEqual(count_ahead(P, "b" * 40, 20), 7 ** 20)
        self.assertEqual(count_ahead(P, "b" * 19, 20), 7 ** 20 - 7)
        self.assertEqual(count_ahead(rule(turned=1), "b" * 20, 20), 0)
        self.assertEqual(count_ahead(P, "_" * 20, 20), 0)
        self.assertEqual(count_ahead(rule(bars="behind"), "_" * 20, 20), 7 ** 20 - 1)
        self.assertEqual(count_ahead(P, "A", 20), 3 * 7 ** 19)
        self.assertEqual(count_beside(rule("together"), "aB" * 10, 20), 2 ** 20)
        self.assertEqual(count_beside(rule("together", "strict"), "aB" * 10, 20), 2 ** 20)
        self.assertEqual(count_beside(rule("last"), "aB" * 10, 20), 1)
        self.assertEqual(count_ahead(P, "z" * 40, 20), 7 ** 20)
        self.assertEqual(count_ahead(P, "9" * 40, 20), 3 * 7 ** 19)

    def test_numbers_of_long_rows(self):
        numbers, strict = rule(figures="numbers"), rule(figures="strict")
        # The bar, then the numbers: all that have 20 figures or fewer are less.
        self.assertEqual(count_ahead(numbers, "9" * 40, 20), 3 * 7 ** 19)
        self.assertEqual(count_ahead(numbers, "1" + "0" * 39, 20), 3 * 7 ** 19)
        # "0", "00" and so on are the number itself.
        self.assertEqual(count_ahead(numbers, "0" * 40, 20), 7 ** 19)
        self.assertEqual(count_beside(numbers, "0" * 40, 20), 1)
        self.assertEqual(count_beside(strict, "0" * 40, 20), 0)
        self.assertEqual(count_beside(numbers, "0" * 39 + "1", 20), 1)
        self.assertEqual(count_beside(numbers, "0" * 39 + "7", 20), 0)
        self.assertEqual(count_beside(numbers, "0" * 39 + "2", 20), 0)
        self.assertEqual(count_beside(numbers, "1" + "0" * 20, 20), 0)
        self.assertEqual(count_beside(numbers, "0" * 20 + "1" + "0" * 19, 20), 1)

    def test_figures_that_are_not_plain(self):
        for figure in "23456789":
            for figures in ("signs", "numbers", "strict"):
                each = rule(figures=figures)
                # The bar and both figures come ahead, whatever stands behind them.
                self.assertEqual(count_ahead(each, figure, 1), 3)
                self.assertEqual(count_beside(each, figure, 1), 0)
                self.assertEqual(count_beside(each, "1" + figure + "a", 3), 0)
        self.assertEqual(count_ahead(rule(figures="signs"), "2", 20), 3 * 7 ** 19)
        # "1" and "01" are less than "2", "10" and "11" are not.
        self.assertEqual(count_ahead(rule(figures="numbers"), "2", 2), 7 + 2 * 5 + 2)
        self.assertEqual(count_ahead(rule(figures="numbers"), "12", 2), 7 + 2 * 5 + 4)

    def test_zeros_are_spread(self):
        # 17 zeros more, ahead of the first number, the second one, or both.
        self.assertEqual(count_beside(rule(figures="numbers"), "1_0", 20), 18)
        self.assertEqual(count_beside(rule(figures="numbers"), "1a1", 20), 18)
        self.assertEqual(count_beside(rule("together", "numbers"), "1a1", 20), 36)
        self.assertEqual(count_beside(rule("last", "numbers"), "1a1", 20), 18)
        self.assertEqual(count_beside(rule(figures="strict"), "1_0", 20), 0)
        self.assertEqual(count_beside(rule(figures="numbers"), "1a1a1", 20), 16 * 17 // 2)

    def test_turned(self):
        for each in (P, Q, rule("together", "strict"), rule("last", "strict", "behind", "behind")):
            for text in TEXTS[::5]:
                for length in (0, 1, 6, 20):
                    ahead, behind = count_ahead(each, text, length), count_ahead(turn(each), text, length)
                    self.assertEqual(ahead + behind + count_beside(each, text, length), 7 ** length)
                    self.assertEqual(count_beside(each, text, length), count_beside(turn(each), text, length))


class Long(unittest.TestCase):
    def test_against_reading_sign_by_sign(self):
        chance = random.Random(8)
        for each in RULES:
            for text in chance.sample(TEXTS, 12):
                near = min(20, len(text) + chance.randint(0, 2))
                for length in (chance.randint(3, 12), chance.randint(13, 20), near):
                    ahead, beside, behind = signwise.counts(each, text, length)
                    with self.subTest(rule=each, text=text, length=length):
                        self.assertEqual(ahead + beside + behind, 7 ** length)
                        self.assertEqual(count_ahead(each, text, length), ahead)
                        self.assertEqual(count_beside(each, text, length), beside)

    def test_reading_sign_by_sign_itself(self):
        for place, each in enumerate(RULES):
            for text in TEXTS[place % 11::11]:
                told = [literal.compare(each, other, text) for other in plain_texts(2)]
                self.assertEqual(signwise.counts(each, text, 2), (told.count(-1), told.count(0), told.count(1)))

    def test_along_a_list_in_order(self):
        for each in RULES[::3]:
            texts = sorted(TEXTS[::2], key=functools.cmp_to_key(lambda one, other: literal.compare(each, one, other)))
            for length in (4, 9, 20):
                counted = [(count_ahead(each, text, length), count_beside(each, text, length)) for text in texts]
                for place in range(1, len(texts)):
                    ahead, beside = counted[place - 1]
                    if compare(each, texts[place - 1], texts[place]) == 0:
                        self.assertEqual(counted[place], (ahead, beside))
                    else:
                        self.assertGreaterEqual(counted[place][0], ahead + beside)

    def test_kinds(self):
        self.assertIs(type(count_ahead(P, "a", 20)), int)
        self.assertIs(type(count_beside(P, "a", 20)), int)
        self.assertIs(type(count_same(P, P, 6)), int)


class Same(unittest.TestCase):
    def test_by_hand(self):
        for length in range(7):
            for each in RULES[::9]:
                self.assertEqual(count_same(each, each, length), 49 ** length)
        self.assertEqual(count_same(P, Q, 0), 1)
        # With itself a text is told alike, any other one is not.
        self.assertEqual([count_same(P, rule(turned=1), length) for length in range(7)],
                         [7 ** length for length in range(7)])
        # "B" and "a" change places; then "A" and "a", "B" and "b" are beside one another, too.
        self.assertEqual(count_same(P, rule("mixed"), 1), 49 - 2)
        self.assertEqual(count_same(P, rule("together"), 1), 49 - 2 - 4)
        self.assertEqual(count_same(P, rule(bars="behind"), 1), 49 - 12)
        self.assertEqual(count_same(P, rule(ends="behind"), 6), 49 ** 6)

    def test_either_way_round(self):
        for one in RULES[::11]:
            for other in RULES[::7]:
                self.assertEqual(count_same(one, other, 5), count_same(other, one, 5))

    def test_all_pairs_of_length_0_to_2(self):
        for place, one in enumerate(RULES):
            for other in RULES[place % 5::5]:
                for length in range(3):
                    self.assertEqual(count_same(one, other, length), same_by_ranks(one, other, length))

    def test_all_pairs_of_length_3(self):
        for place, one in enumerate(RULES):
            other = RULES[(place * 29 + 17) % 96]
            self.assertEqual(count_same(one, other, 3), same_by_ranks(one, other, 3))

    def test_all_pairs_of_length_4(self):
        two = (rule("last", "strict", "behind"), rule("last", "numbers", "ahead"))
        self.assertEqual(count_same(*two, 4), same_by_ranks(*two, 4))

    def test_shares(self):
        # A walk along all pairs of texts of one length counts those of each kind.
        for length, found in enumerate(equal_lengths.count(6)):
            self.assertEqual(sum(found.values()), 49 ** length)
            for pair, shares in zip(PAIRS, SHARES):
                seen, turned = looks.looks_of(*pair), looks.looks_of(*pair[::-1])
                many = found[seen] if seen == turned else found[seen] + found[turned]
                self.assertEqual(shares[length], many, (pair, length))
        self.assertEqual([len(shares) for shares in SHARES], [7] * len(PAIRS))

    def test_the_walk_itself(self):
        for length, found in enumerate(equal_lengths.count(2)):
            tried = {}
            for one, other in itertools.product(plain_texts(length), repeat=2):
                seen = looks.looks_of(one, other)
                tried[seen] = tried.get(seen, 0) + 1
            self.assertEqual(+found, tried)


class WrongArguments(unittest.TestCase):
    def test_rules(self):
        for value in WRONG_RULES:
            with self.subTest(value=value):
                for function in (count_ahead, count_beside):
                    self.assertRaises(BadRule, function, value, "a", 1)
                    self.assertRaises(BadRule, function, value, "-", 21)
                    self.assertRaises(BadRule, function, value, "a", None)
                self.assertRaises(BadRule, count_same, value, P, 1)
                self.assertRaises(BadRule, count_same, P, value, 1)
                self.assertRaises(BadRule, count_same, P, value, 7)

    def test_texts(self):
        for value in WRONG_TEXTS:
            with self.subTest(value=value):
                for function in (count_ahead, count_beside):
                    self.assertRaises(BadText, function, P, value, 1)
                    self.assertRaises(BadText, function, P, value, 21)
                    self.assertRaises(BadText, function, P, value, True)

    def test_lengths(self):
        for value in WRONG_COUNTED + [21]:
            with self.subTest(value=value):
                self.assertRaises(BadNumber, count_ahead, P, "a", value)
                self.assertRaises(BadNumber, count_beside, P, "a", value)
        for value in WRONG_COUNTED + [7, 20, 21]:
            with self.subTest(value=value):
                self.assertRaises(BadNumber, count_same, P, Q, value)


if __name__ == "__main__":
    unittest.main()
