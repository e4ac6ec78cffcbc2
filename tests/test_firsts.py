"""[1], [2], [3], [31], [32]: first come."""

import copy
import inspect
import itertools
import unittest

from plain import RULES, WRONG_KEYS, WRONG_RULES, WRONG_SIZES, keys_of, mixed, sum_of_ways
from strewn.errors import BadKey, BadRule, BadSize, Full
from strewn.firsts import first_come, ways
from strewn.homes import home
from strewn.rows import Row

ONCE = ("times", 1, 0)


def by_the_words(rule, size, keys):
    places = [None] * size
    for key in keys:
        place = home(rule, key, size)
        while places[place] is not None:
            place = 0 if place == size - 1 else place + 1
        places[place] = key
    return places


def lay_of(rule, size, keys):
    row = Row(rule, size)
    for key in keys:
        row.put(key)
    return row.lay()


def taken(places):
    return [place for place, key in enumerate(places) if key is not None]


class Firsts(unittest.TestCase):
    def refused(self, error, deed, *handed):
        before = copy.deepcopy(handed)
        with self.assertRaises(error) as caught:
            deed(*handed)
        self.assertIs(type(caught.exception), error)
        self.assertEqual(handed, before)


class Places(Firsts):
    def test_by_hand(self):
        told = (
            (ONCE, 5, [], [None] * 5),
            (ONCE, 5, [3], [None, None, None, 3, None]),
            (ONCE, 5, [8, 3], [None, None, None, 8, 3]),
            (ONCE, 5, [3, 8], [None, None, None, 3, 8]),
            (ONCE, 5, [4, 13, 8, 3], [8, 3, None, 13, 4]),
            (ONCE, 5, [3, 8, 13, 4], [13, 4, None, 3, 8]),
            (ONCE, 5, [0, 4, 9], [0, 9, None, None, 4]),
            (ONCE, 2, [7], [None, 7]),
            (("times", 0, 63), 64, [5, 4], [4] + [None] * 62 + [5]),
            (("high", 1, 1), 4, [3, 0, 1], [0, None, 3, 1]),
            (("told", (3, 999, 0)), 4, [1, 0, 2], [0, 2, None, 1]),
            (ONCE, 3, [999999, 0], [999999, 0, None]),
        )
        for rule, size, keys, wanted in told:
            self.assertEqual(first_come(rule, size, keys), wanted, (rule, size, keys))

    def test_by_the_words(self):
        for rule in RULES:
            for size in (2, 3, 5, 8, 64):
                for many in sorted({0, 1, size // 2, size - 1}):
                    for turn in range(3):
                        keys = mixed(keys_of(many, turn), turn)
                        told = first_come(rule, size, keys)
                        self.assertIs(type(told), list)
                        self.assertEqual(told, by_the_words(rule, size, keys), (rule, size, keys))

    def test_what_is_handed_in_is_neither_changed_nor_kept(self):
        keys = [4, 13, 8, 3]
        told = first_come(ONCE, 5, keys)
        self.assertEqual(keys, [4, 13, 8, 3])
        keys.clear()
        self.assertEqual(told, [8, 3, None, 13, 4])
        told[0] = 77
        self.assertEqual(first_come(ONCE, 5, [4, 13, 8, 3]), [8, 3, None, 13, 4])


class AnyOrder(Firsts):
    def look_at(self, rule, size, keys, orders):
        lay = lay_of(rule, size, keys)
        for order in orders:
            told = first_come(rule, size, list(order))
            self.assertEqual(taken(told), taken(lay), (rule, size, order))
            self.assertEqual(ways(rule, told), ways(rule, lay), (rule, size, order))

    def test_all_orders_of_few_keys(self):
        for rule in RULES:
            for size in (5, 6):
                for keys in ([0, 1, 2, 3], [4, 9, 14, 3], keys_of(4, 2)):
                    self.look_at(rule, size, keys, itertools.permutations(keys))

    def test_several_orders_of_many_keys(self):
        for rule in RULES:
            for size in (16, 64):
                for many in (size // 2, size - 1):
                    keys = keys_of(many, 7)
                    self.look_at(rule, size, keys, [mixed(keys, turn) for turn in range(5)])


class Ways(Firsts):
    def test_by_hand(self):
        told = (
            ([8, 3, None, 13, 4], 5),       # 8 two on, 3 three on
            ([13, 4, None, 3, 8], 5),
            ([0, 1, 2, 3, 4], 0),
            ([1, 2, 3, 4, 0], 20),          # no outcome of first come: each four on
            ([4, 0, 1, 2, 3], 5),
            ([None, None, 0], 2),
            ([1, None], 1),
            ([7, None, None, None, 7], 5),  # one key at two places: three on and two on
        )
        for places, wanted in told:
            self.assertEqual(ways(ONCE, places), wanted, places)
            self.assertIs(type(ways(ONCE, places)), int)

    def test_none_alone(self):
        for rule in RULES:
            for size in (2, 3, 64):
                self.assertEqual(ways(rule, [None] * size), 0)

    def test_any_list(self):
        for rule in RULES:
            for size in (2, 3, 7, 64):
                for turn in range(4):
                    keys = mixed(keys_of(size, turn), turn)
                    places = [None if key % 3 == turn else key for key in keys]
                    self.assertEqual(ways(rule, places), sum_of_ways(rule, places), (rule, places))

    def test_the_greatest(self):
        self.assertEqual(ways(("times", 0, 1), [5] + [None] * 63), 63)
        self.assertEqual(ways(("told", (0,)), list(range(64))), 63 * 32)

    def test_the_list_is_not_changed(self):
        places = [8, 3, None, 13, 4]
        ways(ONCE, places)
        self.assertEqual(places, [8, 3, None, 13, 4])


class RefusedFirsts(Firsts):
    def test_rules(self):
        for rule in WRONG_RULES:
            self.refused(BadRule, first_come, rule, 5, [1])
            self.refused(BadRule, first_come, rule, 5, [])

    def test_sizes(self):
        for rule in RULES:
            for size in WRONG_SIZES:
                self.refused(BadSize, first_come, rule, size, [1])
                self.refused(BadSize, first_come, rule, size, [])

    def test_keys(self):
        for thing in WRONG_KEYS + (None,):
            for keys in ([thing], [thing, 1, 2], [1, thing, 2], [1, 2, thing]):
                self.refused(BadKey, first_come, ONCE, 5, keys)

    def test_keys_told_twice(self):
        for keys in ([1, 1], [0, 0], [1, 2, 1], [2, 1, 1], [999999, 3, 4, 999999]):
            self.refused(BadKey, first_come, ONCE, 64, keys)

    def test_bounds_of_keys(self):
        self.assertEqual(first_come(ONCE, 4, [0, 999999]), [0, None, None, 999999])

    def test_full(self):
        for rule in RULES:
            for size in (2, 3, 64):
                self.assertEqual(first_come(rule, size, list(range(size - 1))).count(None), 1)
                self.refused(Full, first_come, rule, size, list(range(size)))
                self.refused(Full, first_come, rule, size, list(range(size + 9)))

    def test_the_first_told(self):
        no_room = [0, 1, 2, 3, 4, 5]
        for rule in WRONG_RULES:
            for size in WRONG_SIZES:
                self.refused(BadRule, first_come, rule, size, [-1])
            self.refused(BadRule, first_come, rule, 5, [-1])
            self.refused(BadRule, first_come, rule, 5, no_room)
        for size in WRONG_SIZES:
            self.refused(BadSize, first_come, ONCE, size, [-1])
            self.refused(BadSize, first_come, ONCE, size, [3, 3])
            self.refused(BadSize, first_come, ONCE, size, list(range(100)))
        for thing in WRONG_KEYS + (None,):
            self.refused(BadKey, first_come, ONCE, 5, no_room + [thing])
            self.refused(BadKey, first_come, ONCE, 5, [thing] + no_room)
        self.refused(BadKey, first_come, ONCE, 5, no_room + [5])
        self.refused(BadKey, first_come, ONCE, 2, [1, 1])


class RefusedWays(Firsts):
    def test_rules(self):
        for rule in WRONG_RULES:
            self.refused(BadRule, ways, rule, [None, 1])

    def test_lengths(self):
        for rule in RULES:
            for length in (0, 1, 65, 100):
                self.refused(BadSize, ways, rule, [None] * length)
                self.refused(BadSize, ways, rule, list(range(length)))
            for length in (2, 64):
                self.assertGreaterEqual(ways(rule, list(range(length))), 0)

    def test_keys(self):
        for thing in WRONG_KEYS:
            for places in ([thing, None], [None, thing], [1, None, thing, 2]):
                self.refused(BadKey, ways, ONCE, places)

    def test_the_first_told(self):
        for rule in WRONG_RULES:
            self.refused(BadRule, ways, rule, [])
            self.refused(BadRule, ways, rule, [-1, None])
            self.refused(BadRule, ways, rule, [-1])
        for thing in WRONG_KEYS:
            self.refused(BadSize, ways, ONCE, [thing])
            self.refused(BadSize, ways, ONCE, [thing] * 65)


class Interface(unittest.TestCase):
    def test_arguments(self):
        self.assertEqual(list(inspect.signature(first_come).parameters), ["rule", "size", "keys"])
        self.assertEqual(list(inspect.signature(ways).parameters), ["rule", "places"])


if __name__ == "__main__":
    unittest.main()
