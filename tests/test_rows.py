"""[1], [2], [3], [21] to [24]: rows."""

import copy
import inspect
import itertools
import unittest

from plain import RULES, WRONG_KEYS, WRONG_RULES, WRONG_SIZES, all_lists, goes_ahead, is_lay, keys_of, mixed
from strewn.errors import BadKey, BadRule, BadSize, Full
from strewn.homes import home
from strewn.rows import Row

ONCE = ("times", 1, 0)


def row_of(rule, size, keys):
    row = Row(rule, size)
    for key in keys:
        row.put(key)
    return row


def all_said(row):
    return (row.lay(), row.all_told(), [row.looks(key) for key in range(30)])


class Rows(unittest.TestCase):
    def refused(self, error, deed, *handed):
        with self.assertRaises(error) as caught:
            deed(*handed)
        self.assertIs(type(caught.exception), error)

    def look_at(self, row, rule, size, keys):
        self.assertTrue(is_lay(rule, size, keys, row.lay()), (rule, size, keys, row.lay()))
        self.assertEqual(row.all_told(), sorted(keys))


class Lays(Rows):
    def test_by_hand(self):
        told = (
            (ONCE, 5, [], [None] * 5),
            (ONCE, 5, [7], [None, None, 7, None, None]),
            (ONCE, 5, [8, 3], [None, None, None, 3, 8]),          # one home: the less one ahead
            (ONCE, 5, [1, 0, 5], [0, 5, 1, None, None]),          # 5 has come one on, 1 none
            (ONCE, 5, [4, 9, 14], [9, 14, None, None, 4]),        # over the ring's end
            (ONCE, 5, [4, 13, 8, 3], [13, 4, None, 3, 8]),
            (ONCE, 5, [0, 4, 9, 5], [9, 0, 5, None, 4]),          # 9 pushes 0 from its home
            (ONCE, 2, [3], [None, 3]),
            (ONCE, 2, [4], [4, None]),
            (ONCE, 3, [5, 2], [5, None, 2]),
            (("times", 0, 2), 4, [9, 1, 5], [9, None, 1, 5]),
            (("high", 1, 1), 4, [3, 0, 1], [0, None, 1, 3]),      # even ones at 0, odd ones at 2
            (("told", (3, 999, 0)), 4, [1, 0, 2], [1, 2, None, 0]),
        )
        for rule, size, keys, lay in told:
            for order in itertools.permutations(keys):
                self.assertEqual(row_of(rule, size, order).lay(), lay, (rule, size, order))

    def test_by_definition(self):
        for rule in RULES:
            for size in (2, 3, 4, 5, 8, 13, 33, 64):
                for many in sorted({0, 1, size // 2, size * 3 // 4, size - 1}):
                    for keys in (keys_of(many, size), list(range(many))):
                        row = row_of(rule, size, keys)
                        self.look_at(row, rule, size, keys)

    def test_all_sizes_with_all_the_keys_that_have_room(self):
        for size in range(2, 65):
            rule = RULES[size % len(RULES)]
            keys = keys_of(size - 1, 3)
            self.look_at(row_of(rule, size, keys), rule, size, keys)

    def test_there_is_just_one(self):
        for rule in RULES:
            for size in (2, 3, 4, 5):
                for many in range(size):
                    for keys in (list(range(many)), keys_of(many, 5), [3 * key + 1 for key in range(many)]):
                        lays = [made for made in all_lists(size, keys) if is_lay(rule, size, keys, made)]
                        self.assertEqual(lays, [row_of(rule, size, keys).lay()], (rule, size, keys))

    def test_each_small_choice_of_keys(self):
        for rule in RULES:
            for size in (2, 3, 4, 5, 6):
                for many in range(size):
                    for keys in itertools.combinations(range(7), many):
                        self.look_at(row_of(rule, size, keys), rule, size, keys)

    def test_ways_over_the_rings_end(self):
        for rule in (("times", 0, 63), ("told", (63, 62, 63, 61))):
            for size in (4, 8, 64):
                keys = list(range(size - 1))
                row = row_of(rule, size, keys)
                self.assertIsNotNone(row.lay()[0])
                self.assertIsNotNone(row.lay()[size - 1])
                self.look_at(row, rule, size, keys)
                for key in keys[::2]:
                    self.assertIs(row.drop(key), True)
                self.look_at(row, rule, size, keys[1::2])


class Orders(Rows):
    def test_all_orders(self):
        for rule in RULES:
            for keys in ([4, 9, 14, 3], [0, 1, 2, 3], keys_of(4, 9)):
                wanted = row_of(rule, 5, keys).lay()
                for order in itertools.permutations(keys):
                    self.assertEqual(row_of(rule, 5, order).lay(), wanted, (rule, order))

    def test_great_rows_in_several_orders(self):
        for rule in RULES:
            keys = keys_of(63, 1)
            wanted = row_of(rule, 64, keys).lay()
            for turn in range(4):
                self.assertEqual(row_of(rule, 64, mixed(keys, turn)).lay(), wanted, rule)

    def test_put_twice(self):
        for rule in RULES:
            row = Row(rule, 9)
            for key in (5, 14, 5, 23, 14, 0, 5, 0, 8):
                row.put(key)
            self.assertEqual(row.lay(), row_of(rule, 9, [0, 5, 8, 14, 23]).lay(), rule)

    def test_others_put_and_dropped_between(self):
        for rule in RULES:
            for size in (4, 9, 64):
                keys = keys_of(size // 2, 2)
                others = list(range(1, size - size // 2))
                wanted = row_of(rule, size, keys).lay()
                for turn in range(3):
                    row = Row(rule, size)
                    for key in mixed(keys + others, turn):
                        row.put(key)
                    for key in mixed(others, turn + 5):
                        self.assertIs(row.drop(key), True)
                    self.assertEqual(row.lay(), wanted, (rule, size, turn))

    def test_many_deeds(self):
        for rule in RULES:
            for size in (2, 3, 5, 8):
                row = Row(rule, size)
                keys = set()
                for step in range(150):
                    key = step * step * 7 % 23 % (size * 2)
                    if step % 3 == 1:
                        self.assertIs(row.drop(key), key in keys)
                        keys.discard(key)
                    elif key in keys or len(keys) < size - 1:
                        self.assertIs(row.put(key), key not in keys)
                        keys.add(key)
                    else:
                        self.refused(Full, row.put, key)
                    self.look_at(row, rule, size, keys)
                    for asked in range(size * 2):
                        self.assertIs(row.has(asked), asked in keys)


class Told(Rows):
    def test_what_put_drop_and_has_tell(self):
        row = Row(ONCE, 5)
        self.assertIs(row.has(3), False)
        self.assertIs(row.drop(3), False)
        self.assertIs(row.put(3), True)
        self.assertIs(row.put(3), False)
        self.assertIs(row.has(3), True)
        self.assertIs(row.has(8), False)
        self.assertIs(row.drop(8), False)
        self.assertIs(row.put(8), True)
        self.assertIs(row.has(8), True)
        self.assertIs(row.drop(3), True)
        self.assertIs(row.has(3), False)
        self.assertIs(row.has(8), True)
        self.assertIs(row.drop(3), False)
        self.assertIs(row.drop(8), True)
        self.assertEqual(row.lay(), [None] * 5)
        self.assertEqual(row.all_told(), [])

    def test_drop_brings_back_those_behind(self):
        row = row_of(ONCE, 5, [4, 13, 8, 3])
        self.assertIs(row.drop(3), True)
        self.assertEqual(row.lay(), [4, None, None, 8, 13])
        self.assertIs(row.drop(13), True)
        self.assertEqual(row.lay(), [None, None, None, 8, 4])

    def test_drop_leaves_those_at_home(self):
        row = row_of(ONCE, 6, [0, 1, 6, 3])
        self.assertEqual(row.lay(), [0, 6, 1, 3, None, None])
        self.assertIs(row.drop(6), True)
        self.assertEqual(row.lay(), [0, 1, None, 3, None, None])

    def test_all_told_is_rising(self):
        for rule in RULES:
            keys = mixed(keys_of(40, 4), 2)
            self.assertEqual(row_of(rule, 64, keys).all_told(), sorted(keys))

    def test_bounds_of_keys(self):
        row = Row(ONCE, 64)
        self.assertIs(row.put(0), True)
        self.assertIs(row.put(999999), True)
        self.assertEqual(row.all_told(), [0, 999999])
        self.assertEqual(row.looks(999999), 1)


class FullRows(Rows):
    def test_one_key_less_than_the_size(self):
        for rule in RULES:
            for size in (2, 3, 8, 64):
                row = row_of(rule, size, range(size - 1))
                before = all_said(row)
                for key in (size - 1, size, 999999):
                    self.refused(Full, row.put, key)
                    self.assertEqual(all_said(row), before)
                    self.assertIs(row.has(key), False)

    def test_not_for_a_key_that_is_there(self):
        for rule in RULES:
            row = row_of(rule, 8, range(7))
            before = all_said(row)
            for key in range(7):
                self.assertIs(row.put(key), False)
            self.assertEqual(all_said(row), before)

    def test_room_again_behind_a_drop(self):
        for rule in RULES:
            row = row_of(rule, 8, range(7))
            self.refused(Full, row.put, 7)
            self.assertIs(row.drop(2), True)
            self.assertIs(row.put(7), True)
            self.look_at(row, rule, 8, [0, 1, 3, 4, 5, 6, 7])
            self.refused(Full, row.put, 2)

    def test_no_key_is_refused_first(self):
        row = row_of(ONCE, 2, [0])
        for thing in WRONG_KEYS:
            self.refused(BadKey, row.put, thing)


class Looks(Rows):
    def look_by_hand(self, row, told):
        for key, wanted in told:
            self.assertEqual(row.looks(key), wanted, key)
            self.assertIs(type(row.looks(key)), int)

    def test_an_empty_home(self):
        self.look_by_hand(Row(ONCE, 5), [(0, 1), (4, 1), (999999, 1)])
        self.look_by_hand(row_of(ONCE, 5, [0, 3]), [(1, 1), (2, 1), (4, 1), (9, 1)])

    def test_a_home_that_has_the_key(self):
        self.look_by_hand(row_of(ONCE, 5, [0, 3, 4]), [(0, 1), (3, 1), (4, 1)])

    def test_ends_at_home_at_a_key_that_does_not_go_ahead(self):
        self.look_by_hand(row_of(ONCE, 5, [8]), [(3, 1), (8, 1), (13, 2)])

    def test_nearly_full(self):
        row = row_of(ONCE, 5, [4, 13, 8, 3])    # the lay: 13, 4, None, 3, 8
        self.look_by_hand(row, [(3, 1), (8, 2), (13, 3), (4, 3)])
        told = (
            (2, 1),     # empty
            (1, 2),     # 4 has come two on; then empty
            (0, 3),     # 13 has come two on, 4 two and the key one; then empty
            (18, 4),    # 3, 8 and 13 are of one home with it and less; 4 has come two on and the key three
            (9, 4),     # 8, 13, and 4, which is less; then empty
            (5, 3),
        )
        self.look_by_hand(row, told)

    def test_ends_at_a_key_that_comes_behind_of_one_home(self):
        # The lay: 0, 10, 20, 30, 1, and empty ones.
        row = row_of(("times", 1, 0), 10, [0, 10, 20, 30, 1])
        self.look_by_hand(row, [(5, 1), (40, 5), (11, 5), (21, 5), (2, 4), (3, 3), (4, 2)])
        # All of one home, at 1.
        row = row_of(("times", 0, 1), 10, [2, 4, 6])
        self.look_by_hand(row, [(0, 1), (2, 1), (3, 2), (4, 2), (5, 3), (6, 3), (7, 4)])

    def test_over_the_rings_end(self):
        row = row_of(("times", 0, 3), 4, [1, 5, 9])
        self.look_by_hand(row, [(0, 1), (1, 1), (2, 2), (5, 2), (6, 3), (9, 3), (10, 4)])

    def test_by_the_words(self):
        for rule in RULES:
            for size in (2, 3, 5, 9, 64):
                for many in sorted({0, 1, size // 2, size - 1}):
                    keys = [key * 2 for key in range(many)]
                    row = row_of(rule, size, keys)
                    for key in list(range(min(2 * size, 40))) + [999999]:
                        wanted = self.by_the_words(rule, size, row.lay(), key)
                        self.assertEqual(row.looks(key), wanted, (rule, size, many, key))

    def by_the_words(self, rule, size, lay, key):
        place = home(rule, key, size)
        for looks in range(1, size + 1):
            here = lay[place]
            if here is None or here == key or not goes_ahead(rule, size, here, key, place):
                return looks
            place = 0 if place == size - 1 else place + 1

    def test_looking_changes_nothing(self):
        row = row_of(ONCE, 5, [4, 13, 8])
        before = row.lay()
        for key in range(20):
            row.looks(key)
            row.has(key)
        self.assertEqual(row.lay(), before)


class Apart(Rows):
    def test_two_rows_do_not_touch_each_other(self):
        one = Row(ONCE, 5)
        other = Row(ONCE, 5)
        one.put(3)
        self.assertEqual((one.all_told(), other.all_told()), ([3], []))
        other.put(8)
        other.put(4)
        self.assertEqual((one.all_told(), other.all_told()), ([3], [4, 8]))
        one.drop(3)
        self.assertEqual((one.lay(), other.lay()), ([None] * 5, [None, None, None, 8, 4]))

    def test_lists_that_are_told_are_new_ones(self):
        row = row_of(ONCE, 5, [4, 13, 8])
        before = all_said(row)
        lay = row.lay()
        lay[0] = 99
        lay.append(1)
        told = row.all_told()
        told.clear()
        self.assertEqual(all_said(row), before)
        self.assertIsNot(row.lay(), row.lay())
        self.assertIsNot(row.all_told(), row.all_told())
        self.assertIs(row.put(3), True)
        self.assertEqual(lay, [99] + before[0][1:] + [1])
        self.assertEqual(told, [])


class Refused(Rows):
    def test_rules_and_sizes(self):
        for rule in WRONG_RULES:
            self.refused(BadRule, Row, rule, 5)
        for rule in RULES:
            for size in WRONG_SIZES:
                self.refused(BadSize, Row, rule, size)
            for size in (2, 64):
                self.assertEqual(Row(rule, size).lay(), [None] * size)

    def test_the_rule_is_refused_first(self):
        for rule in WRONG_RULES:
            for size in WRONG_SIZES:
                self.refused(BadRule, Row, rule, size)

    def test_keys(self):
        row = row_of(ONCE, 5, [0, 1, 7])
        before = all_said(row)
        for thing in WRONG_KEYS + (None,):
            handed = copy.deepcopy(thing)
            for deed in (row.put, row.drop, row.has, row.looks):
                self.refused(BadKey, deed, thing)
            self.assertEqual(thing, handed)
            self.assertEqual(all_said(row), before)


class Interface(unittest.TestCase):
    def test_arguments(self):
        self.assertEqual(list(inspect.signature(Row).parameters), ["rule", "size"])
        for name in ("put", "drop", "has", "looks"):
            self.assertEqual(list(inspect.signature(getattr(Row, name)).parameters), ["self", "key"], name)
        for name in ("all_told", "lay"):
            self.assertEqual(list(inspect.signature(getattr(Row, name)).parameters), ["self"], name)


if __name__ == "__main__":
    unittest.main()
