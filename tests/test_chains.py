"""[1], [2], [3], [51], [52]: chains, and the longest one over all scatterings."""

import copy
import fractions
import inspect
import itertools
import math
import unittest

from plain import RULES, WRONG_KEYS, WRONG_RULES, WRONG_SIZES, home_of, keys_of, mixed
from strewn.chains import chains, longest, mean_longest
from strewn.errors import BadKey, BadRule, BadSize

ONCE = ("times", 1, 0)
WRONG_COUNTS = (-1, 65, 66, 1000, -64, True, False, None, "", "5", [], [5], (5,), 5.0)
SMALL = [(size, many) for size in range(2, 7) for many in range(6)] + [(2, 10), (3, 8), (4, 6), (9, 4), (20, 3), (64, 2)]
GREAT = [(2, 64), (3, 64), (7, 50), (16, 33), (31, 64), (63, 63), (63, 64), (64, 1), (64, 9), (64, 63), (64, 64)]


def by_the_words(rule, size, keys):
    return [[key for key in sorted(keys) if home_of(rule, key, size) == place] for place in range(size)]


def longest_chains(size, many):
    """The longest chain of each scattering."""
    for homes in itertools.product(range(size), repeat=many):
        yield max([homes.count(place) for place in range(size)])


def by_shares(size, many, most):
    """In how many scatterings no chain has more than the most, home by home: how many of the keys left each one has."""
    left = [0] * many + [1]     # at each number of keys left, how many ways there are to come to it
    for place in range(size):
        fewer = [0] * (many + 1)
        for keys, ways in enumerate(left):
            for own in range(min(most, keys) + 1):
                fewer[keys - own] += ways * math.comb(keys, own)
        left = fewer
    return left[0]


class Chained(unittest.TestCase):
    def refused(self, error, deed, *handed):
        with self.assertRaises(error) as caught:
            deed(*handed)
        self.assertIs(type(caught.exception), error)

    def is_fraction(self, told, wanted):
        self.assertIs(type(told), tuple)
        self.assertEqual([type(part) for part in told], [int, int])
        self.assertEqual(told, (wanted.numerator, wanted.denominator))


class Chains(Chained):
    def test_by_hand(self):
        told = (
            (ONCE, 5, [8, 3, 4, 13], [[], [], [], [3, 8, 13], [4]]),
            (ONCE, 2, [5, 4, 3, 2, 1, 0], [[0, 2, 4], [1, 3, 5]]),
            (ONCE, 3, [999999, 0], [[0, 999999], [], []]),
            (("times", 0, 1), 3, [7, 9, 8], [[], [7, 8, 9], []]),
            (("high", 1, 1), 4, [3, 0, 1], [[0], [], [1, 3], []]),
            (("told", (3, 999, 0)), 4, [4, 1, 0, 2], [[2], [], [], [0, 1, 4]]),
        )
        for rule, size, keys, wanted in told:
            for order in itertools.permutations(keys):
                self.assertEqual(chains(rule, size, list(order)), wanted, (rule, size, order))

    def test_no_keys(self):
        for rule in RULES:
            for size in (2, 3, 64):
                self.assertEqual(chains(rule, size, []), [[] for place in range(size)])

    def test_by_the_words(self):
        for rule in RULES:
            for size in (2, 3, 5, 16, 63, 64):
                for keys in (list(range(20)), keys_of(70, size), mixed(keys_of(40, 3), size), mixed(range(64), 1)):
                    told = chains(rule, size, keys)
                    self.assertEqual(told, by_the_words(rule, size, keys), (rule, size))
                    self.assertEqual(told, chains(rule, size, sorted(keys)))
                    self.assertEqual(told, chains(rule, size, keys[::-1]))

    def test_more_keys_than_a_row_has_room_for(self):
        keys = mixed(range(500), 7)
        for rule in RULES:
            told = chains(rule, 2, keys)
            self.assertEqual(sorted(told[0] + told[1]), list(range(500)))
            self.assertEqual(told, by_the_words(rule, 2, keys))

    def test_lists(self):
        told = chains(ONCE, 5, [3])
        self.assertIs(type(told), list)
        self.assertEqual({type(chain) for chain in told}, {list})

    def test_what_is_handed_in_is_neither_changed_nor_kept(self):
        keys = [8, 3, 4, 13]
        told = chains(ONCE, 5, keys)
        self.assertEqual(keys, [8, 3, 4, 13])
        keys.clear()
        self.assertEqual(told, [[], [], [], [3, 8, 13], [4]])

    def test_lists_that_are_told_are_new_ones(self):
        keys = [8, 3, 4, 13]
        told = chains(ONCE, 5, keys)
        self.assertEqual(len({id(chain) for chain in told}), 5)
        told[0].append(99)
        told[3].clear()
        told.pop()
        self.assertEqual(keys, [8, 3, 4, 13])
        self.assertEqual(chains(ONCE, 5, keys), [[], [], [], [3, 8, 13], [4]])
        self.assertEqual(chains(ONCE, 5, []), [[], [], [], [], []])


class RefusedChains(Chained):
    def test_rules(self):
        for rule in WRONG_RULES:
            for size in (5,) + WRONG_SIZES:
                for keys in ([], [3, 8], [3, 3], [-1]):
                    self.refused(BadRule, chains, rule, size, keys)

    def test_sizes(self):
        for rule in RULES:
            for size in WRONG_SIZES:
                for keys in ([], [3, 8], [3, 3], [-1]):
                    self.refused(BadSize, chains, rule, size, keys)
            for size in (2, 64):
                self.assertEqual(len(chains(rule, size, [1])), size)

    def test_keys(self):
        for rule in RULES:
            for thing in WRONG_KEYS + (None,):
                for keys in ([thing], [0, thing], [thing, 7], [3, thing, 3]):
                    handed = copy.copy(keys)
                    self.refused(BadKey, chains, rule, 5, keys)
                    self.assertEqual(keys, handed)

    def test_keys_told_twice(self):
        for rule in RULES:
            for keys in ([3, 3], [0, 1, 2, 0], [999999, 5, 999999], list(range(64)) + [63]):
                handed = list(keys)
                self.refused(BadKey, chains, rule, 5, keys)
                self.assertEqual(keys, handed)

    def test_bounds_of_keys(self):
        self.assertEqual(chains(ONCE, 2, [999999, 0]), [[0], [999999]])


class Longest(Chained):
    def test_by_hand(self):
        told = (
            (2, 0, [1]),
            (64, 0, [1]),
            (2, 1, [0, 2]),
            (64, 1, [0, 64]),
            (2, 2, [0, 2, 4]),
            (3, 2, [0, 6, 9]),
            (64, 2, [0, 64 * 63, 64 * 64]),
            (2, 3, [0, 0, 6, 8]),             # three keys in two homes: one has two at least
            (3, 3, [0, 6, 24, 27]),
            (2, 4, [0, 0, 6, 14, 16]),
        )
        for size, many, wanted in told:
            self.assertEqual(longest(size, many), wanted, (size, many))

    def test_gone_through(self):
        for size, many in SMALL:
            counts = list(longest_chains(size, many))
            wanted = [len([count for count in counts if count <= most]) for most in range(many + 1)]
            self.assertEqual(longest(size, many), wanted, (size, many))

    def test_great_ones(self):
        for size, many in GREAT:
            told = longest(size, many)
            self.assertIs(type(told), list)
            self.assertEqual({type(count) for count in told}, {int})
            self.assertEqual(len(told), many + 1)
            self.assertEqual(told, sorted(told), (size, many))
            self.assertEqual(told[-1], size ** many)
            self.assertEqual(told[0], 0)
            # With one key at most to each home: the first has size homes, the next one less, and so on.
            self.assertEqual(told[1], math.perm(size, many))
            # All keys at one home: in size scatterings.
            if many > 1:
                self.assertEqual(told[-1] - told[-2], size)

    def test_great_ones_by_shares(self):
        for size, many in GREAT:
            told = longest(size, many)
            for most in sorted({0, 1, 2, 3, 5, many // 2, many - 1, many} & set(range(many + 1))):
                self.assertEqual(told[most], by_shares(size, many, most), (size, many, most))

    def test_middling_ones_by_shares(self):
        for size in (2, 3, 5, 8, 13):
            for many in range(0, 21, 4):
                wanted = [by_shares(size, many, most) for most in range(many + 1)]
                self.assertEqual(longest(size, many), wanted, (size, many))

    def test_none_has_fewer_than_its_share(self):
        for size, many in ((2, 64), (3, 64), (5, 13), (31, 64), (63, 64)):
            told = longest(size, many)
            for most, count in enumerate(told):
                self.assertEqual(count == 0, most * size < many, (size, many, most))

    def test_a_new_list_each_time(self):
        told = longest(3, 2)
        told[0] = 7
        told.append(1)
        self.assertEqual(longest(3, 2), [0, 6, 9])


class MeanLongest(Chained):
    def test_by_hand(self):
        self.assertEqual(mean_longest(2, 0), (0, 1))
        self.assertEqual(mean_longest(64, 0), (0, 1))
        self.assertEqual(mean_longest(2, 1), (1, 1))
        self.assertEqual(mean_longest(64, 1), (1, 1))
        self.assertEqual(mean_longest(2, 2), (3, 2))
        self.assertEqual(mean_longest(3, 2), (4, 3))
        self.assertEqual(mean_longest(64, 2), (65, 64))
        self.assertEqual(mean_longest(2, 3), (9, 4))     # six of two, two of three
        self.assertEqual(mean_longest(3, 3), (17, 9))    # six of one, eighteen of two, three of three

    def test_gone_through(self):
        for size, many in SMALL:
            counts = list(longest_chains(size, many))
            self.is_fraction(mean_longest(size, many), fractions.Fraction(sum(counts), len(counts)))

    def test_great_ones_come_of_longest(self):
        for size, many in GREAT + [(64, 0), (2, 63), (50, 20)]:
            told = longest(size, many)
            just = [told[0]] + [told[most] - told[most - 1] for most in range(1, many + 1)]
            self.assertEqual(sum(just), size ** many)
            total = sum([most * count for most, count in enumerate(just)])
            mean = mean_longest(size, many)
            self.is_fraction(mean, fractions.Fraction(total, size ** many))
            self.assertGreater(mean[1], 0)
            self.assertEqual(math.gcd(mean[0], mean[1]), 1)


class Bounds(Chained):
    def test_sizes(self):
        for deed in (longest, mean_longest):
            for size in WRONG_SIZES:
                for many in (0, 1, 64) + WRONG_COUNTS:
                    self.refused(BadSize, deed, size, many)
        for size in (2, 64):
            self.assertEqual(longest(size, 1), [0, size])
            self.assertEqual(mean_longest(size, 1), (1, 1))

    def test_counts(self):
        for deed in (longest, mean_longest):
            for size in (2, 5, 64):
                for many in WRONG_COUNTS:
                    self.refused(BadSize, deed, size, many)
        for size in (2, 5, 64):
            self.assertEqual(longest(size, 0), [1])
            self.assertEqual(mean_longest(size, 0), (0, 1))
            self.assertEqual(len(longest(size, 64)), 65)
            self.assertEqual(len(mean_longest(size, 64)), 2)

    def test_counts_do_not_hang_on_the_size(self):
        for many in (1, 2, 3, 40, 63, 64):
            self.assertEqual(longest(2, many)[-1], 2 ** many)


class Interface(unittest.TestCase):
    def test_arguments(self):
        self.assertEqual(list(inspect.signature(chains).parameters), ["rule", "size", "keys"])
        for deed in (longest, mean_longest):
            self.assertEqual(list(inspect.signature(deed).parameters), ["size", "many"])


if __name__ == "__main__":
    unittest.main()
