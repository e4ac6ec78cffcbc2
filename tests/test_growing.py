"""[1], [2], [3], [61], [62]: growing tables."""

import copy
import inspect
import unittest

from plain import RULES, WRONG_KEYS, WRONG_RULES, WRONG_SIZES, drawn, home_of, is_lay, keys_of, mixed
from strewn.errors import BadKey, BadRule, BadSize, Full
from strewn.growing import Growing

ONCE = ("times", 1, 0)
WRONG_STEPS = (0, 5, -1, 6, 100, True, False, None, "", "1", [], [1], (1,), 1.0)
STEPS = (1, 2, 3, 4)


class Model:
    """A growing table by the document's words, with sets of keys in the place of rows."""

    def __init__(self, size, step):
        self.step = step
        self.older = None       # (size, keys), or None
        self.newer = (size, set())
        self.moves = 0
        self.growths = 0

    def keys(self):
        return self.newer[1] | (self.older[1] if self.older else set())

    def put(self, key):
        fresh = key not in self.keys()
        if fresh:
            size, keys = self.newer
            if self.older is None and 4 * (len(keys) + 1) > 3 * size:
                if 2 * size > 1024:
                    return Full
                self.older = self.newer
                self.newer = (2 * size, set())
                self.growths += 1
            self.newer[1].add(key)
        self.at_its_end()
        return fresh

    def drop(self, key):
        there = key in self.keys()
        self.newer[1].discard(key)
        if self.older:
            self.older[1].discard(key)
        self.at_its_end()
        return there

    def has(self, key):
        there = key in self.keys()
        self.at_its_end()
        return there

    def at_its_end(self):
        for turn in range(self.step):
            if self.older and self.older[1]:
                least = min(self.older[1])
                self.older[1].remove(least)
                self.newer[1].add(least)
                self.moves += 1
        if self.older and not self.older[1]:
            self.older = None


def table_of(rule, size, step, keys):
    table = Growing(rule, size, step)
    for key in keys:
        table.put(key)
    return table


def all_said(table):
    return (table.lays(), table.all_told(), table.moved())


def room(size):
    """How many keys a row of this size has before a growth begins."""
    return 3 * size // 4


class Grown(unittest.TestCase):
    def refused(self, error, deed, *handed):
        with self.assertRaises(error) as caught:
            deed(*handed)
        self.assertIs(type(caught.exception), error)

    def look_at(self, table, rule, model, with_lays=True):
        self.assertEqual(table.all_told(), sorted(model.keys()))
        self.assertEqual(table.moved(), model.moves)
        lays = table.lays()
        self.assertIs(type(lays), tuple)
        self.assertEqual(len(lays), 2)
        self.assertEqual(lays[0] is None, model.older is None)
        for row, lay in ((model.older, lays[0]), (model.newer, lays[1])):
            if row is not None:
                self.assertEqual(len(lay), row[0])
                self.assertEqual({key for key in lay if key is not None}, row[1])
                if with_lays:
                    self.assertTrue(is_lay(rule, row[0], row[1], lay), (rule, row, lay))

    def do(self, table, model, deed, key):
        """One deed of both, its truth held against the model's."""
        wanted = getattr(model, deed)(key)
        if wanted is Full:
            self.refused(Full, getattr(table, deed), key)
        else:
            self.assertIs(getattr(table, deed)(key), wanted, (deed, key))


class ByHand(Grown):
    def test_without_keys(self):
        for rule in RULES:
            for size in (2, 3, 64):
                table = Growing(rule, size, 1)
                self.assertEqual(all_said(table), ((None, [None] * size), [], 0))

    def test_one_row_alone(self):
        table = Growing(ONCE, 8, 2)
        self.assertIs(table.has(3), False)
        self.assertIs(table.drop(3), False)
        self.assertIs(table.put(3), True)
        self.assertIs(table.put(3), False)
        self.assertIs(table.put(11), True)
        self.assertIs(table.has(3), True)
        self.assertIs(table.has(19), False)
        self.assertEqual(all_said(table), ((None, [None, None, None, 3, 11, None, None, None]), [3, 11], 0))
        self.assertIs(table.drop(3), True)
        self.assertIs(table.drop(3), False)
        self.assertEqual(all_said(table), ((None, [None, None, None, 11, None, None, None, None]), [11], 0))

    def test_a_growth_with_a_step_of_one(self):
        table = table_of(ONCE, 4, 1, [0, 1, 2])
        self.assertEqual(all_said(table), ((None, [0, 1, 2, None]), [0, 1, 2], 0))
        # Four times four is more than three times four: 11 comes to the newer row, and 0 is moved.
        self.assertIs(table.put(11), True)
        self.assertEqual(table.lays(), ([None, 1, 2, None], [0, None, None, 11, None, None, None, None]))
        self.assertEqual((table.all_told(), table.moved()), ([0, 1, 2, 11], 1))
        self.assertIs(table.has(2), True)
        self.assertEqual(table.lays(), ([None, None, 2, None], [0, 1, None, 11, None, None, None, None]))
        self.assertEqual(table.moved(), 2)
        # This key is there, in the older row.
        self.assertIs(table.put(2), False)
        self.assertEqual(all_said(table), ((None, [0, 1, 2, 11, None, None, None, None]), [0, 1, 2, 11], 3))
        self.assertIs(table.has(2), True)
        self.assertEqual(table.moved(), 3)

    def test_the_least_first(self):
        table = table_of(ONCE, 8, 1, [9, 3, 25, 17, 30, 6])
        self.assertIs(table.put(1), True)
        for least in ([3], [3, 6], [3, 6, 9], [3, 6, 9, 17], [3, 6, 9, 17, 25]):
            older, newer = table.lays()
            self.assertEqual([key for key in older if key is not None and key in least], [])
            self.assertEqual(sorted([key for key in newer if key is not None]), sorted(least + [1]))
            self.assertEqual(table.moved(), len(least))
            table.has(0)
        self.assertIsNone(table.lays()[0])

    def test_all_steps_with_the_put_that_begins(self):
        for step in STEPS:
            table = table_of(ONCE, 8, step, [0, 1, 2, 3, 4, 5])
            self.assertEqual(all_said(table), ((None, [0, 1, 2, 3, 4, 5, None, None]), [0, 1, 2, 3, 4, 5], 0))
            self.assertIs(table.put(14), True)
            older, newer = table.lays()
            self.assertEqual(older, [None] * step + list(range(step, 6)) + [None, None])
            self.assertEqual(newer, list(range(step)) + [None] * (14 - step) + [14, None])
            self.assertEqual(table.moved(), step)

    def test_as_many_as_there_are(self):
        for step in STEPS:
            table = table_of(ONCE, 2, step, [7])
            self.assertEqual(table.lays(), (None, [None, 7]))
            self.assertIs(table.put(4), True)     # the older row has one key, and is gone at once
            self.assertEqual(all_said(table), ((None, [4, None, None, 7]), [4, 7], 1))
        table = table_of(ONCE, 4, 2, [0, 1, 2])
        table.put(3)
        self.assertEqual((table.lays()[0], table.moved()), ([None, None, 2, None], 2))
        table.has(9)
        self.assertEqual((table.lays()[0], table.moved()), (None, 3))
        for step in (3, 4):
            table = table_of(ONCE, 4, step, [0, 1, 2])
            table.put(3)
            self.assertEqual((table.lays()[0], table.moved()), (None, 3))

    def test_one_behind_the_other_gone(self):
        table = Growing(ONCE, 2, 1)
        sizes = []
        for key in range(40):
            table.put(key)
            older, newer = table.lays()
            sizes.append((None if older is None else len(older), len(newer)))
        self.assertEqual(sizes[:9], [
            (None, 2), (None, 4), (None, 4), (4, 8), (4, 8), (None, 8), (8, 16), (8, 16), (8, 16),
        ])
        self.assertEqual(sizes[11:14], [(None, 16), (16, 32), (16, 32)])
        self.assertEqual(sizes[23:25], [(None, 32), (32, 64)])


class Beginning(Grown):
    def test_the_very_put_for_all_sizes(self):
        for size in range(2, 65):
            rule = RULES[size % len(RULES)]
            for step in STEPS:
                keys = mixed(keys_of(room(size) + 1, size), step)
                table = table_of(rule, size, step, keys[:-1])
                self.assertEqual((table.lays()[0], len(table.lays()[1]), table.moved()), (None, size, 0))
                self.assertIs(table.put(keys[-1]), True)
                older, newer = table.lays()
                old = sorted(keys[:-1])
                self.assertEqual(table.moved(), min(step, len(old)))
                self.assertTrue(is_lay(rule, 2 * size, old[:step] + [keys[-1]], newer), (rule, size))
                if len(old) <= step:
                    self.assertIsNone(older)
                else:
                    self.assertTrue(is_lay(rule, size, old[step:], older), (rule, size))

    def test_the_key_with_which_it_begins_is_not_in_the_older_row(self):
        # It is less than all others, but the others are moved.
        for rule in RULES:
            table = table_of(rule, 16, 1, range(100, 112))
            self.assertIs(table.put(5), True)
            self.assertNotIn(5, table.lays()[0])
            self.assertNotIn(100, table.lays()[0])
            self.assertIn(5, table.lays()[1])
            self.assertIn(100, table.lays()[1])
            self.assertEqual(table.moved(), 1)

    def test_no_growth_by_a_key_that_is_there(self):
        for rule in RULES:
            for size in (2, 4, 5, 16):
                keys = keys_of(room(size))
                table = table_of(rule, size, 2, keys)
                before = all_said(table)
                for key in keys:
                    self.assertIs(table.put(key), False)
                    self.assertIs(table.has(key), True)
                    self.assertIs(table.drop(999999), False)
                self.assertEqual(all_said(table), before)
                self.assertIsNone(before[0][0])

    def test_exactly_three_quarters_are_not_more(self):
        for size in (4, 8, 12, 16, 64):
            table = table_of(ONCE, size, 1, range(size * 3 // 4))
            self.assertEqual((table.lays()[0], len(table.lays()[1])), (None, size))
            table.put(999999)
            self.assertEqual(len(table.lays()[1]), 2 * size)

    def test_drops_put_it_off(self):
        table = table_of(ONCE, 8, 1, range(6))
        for key in range(100):
            self.assertIs(table.drop(key), True)
            self.assertIs(table.put(key + 6), True)
            self.assertEqual((table.lays()[0], len(table.lays()[1]), table.moved()), (None, 8, 0))


class During(Grown):
    def test_each_deed_moves(self):
        for rule in RULES:
            for step in STEPS:
                table = table_of(rule, 32, step, range(100, 125))
                model = Model(32, step)
                for key in range(100, 125):
                    model.put(key)
                self.look_at(table, rule, model)
                deeds = (
                    ("has", 124), ("has", 100), ("has", 7), ("put", 124), ("put", 100), ("put", 3),
                    ("drop", 7), ("drop", 124), ("drop", 100), ("drop", 110),
                )
                for deed, key in deeds:
                    before = table.moved()
                    left = len(model.older[1]) if model.older else 0
                    self.do(table, model, deed, key)
                    self.look_at(table, rule, model)
                    if deed != "drop":
                        self.assertEqual(table.moved() - before, min(step, left))

    def test_drops_from_the_older_row(self):
        table = table_of(ONCE, 8, 1, [0, 1, 2, 3, 4, 5, 6])
        self.assertEqual(table.lays()[0], [None, 1, 2, 3, 4, 5, None, None])
        self.assertIs(table.drop(4), True)
        self.assertEqual((table.lays()[0], table.moved()), ([None, None, 2, 3, None, 5, None, None], 2))
        self.assertIs(table.drop(2), True)      # the least one itself: the one behind it is moved
        self.assertEqual((table.lays()[0], table.moved()), ([None, None, None, None, None, 5, None, None], 3))
        self.assertEqual(table.all_told(), [0, 1, 3, 5, 6])
        self.assertIs(table.drop(5), True)      # the last one: nothing is left to be moved
        self.assertEqual(all_said(table), (
            (None, [0, 1, None, 3, None, None, 6] + [None] * 9), [0, 1, 3, 6], 3,
        ))

    def test_drops_from_the_newer_row(self):
        table = table_of(ONCE, 8, 1, [0, 1, 2, 3, 4, 5, 6])
        self.assertIs(table.drop(6), True)
        self.assertEqual(table.lays(), ([None, None, 2, 3, 4, 5, None, None], [0, 1] + [None] * 14))
        self.assertIs(table.drop(1), True)      # one that was moved
        self.assertEqual(table.lays(), ([None, None, None, 3, 4, 5, None, None], [0, None, 2] + [None] * 13))
        self.assertEqual((table.all_told(), table.moved()), ([0, 2, 3, 4, 5], 3))

    def test_dropped_and_put_again(self):
        # It was in the older row; now it comes to the newer one.
        table = table_of(ONCE, 8, 1, [0, 1, 2, 3, 4, 5, 6])
        self.assertIs(table.drop(5), True)
        self.assertIs(table.put(5), True)
        self.assertEqual(table.lays()[0], [None, None, None, 3, 4, None, None, None])
        self.assertEqual(table.lays()[1], [0, 1, 2, None, None, 5, 6] + [None] * 9)
        self.assertEqual(table.moved(), 3)

    def test_keys_put_come_to_the_newer_row(self):
        for rule in RULES:
            table = table_of(rule, 32, 1, range(100, 125))
            for key in range(10):
                self.assertIs(table.put(key), True)
                self.assertIn(key, table.lays()[1])
                self.assertNotIn(key, table.lays()[0])
            self.assertEqual(table.moved(), 11)

    def test_a_step_of_one_over_many_deeds(self):
        for rule in RULES:
            for deed in ("has", "drop"):
                table = table_of(rule, 64, 1, range(49))
                for step in range(2, 49):
                    self.assertIsNotNone(table.lays()[0])
                    getattr(table, deed)(999)
                    self.assertEqual(table.moved(), step)
                self.assertIsNone(table.lays()[0])
                getattr(table, deed)(999)
                self.assertEqual(table.moved(), 48)

    def test_no_growth_begins_while_both_are_there(self):
        # Nothing but new keys and the least step: as many keys as may come while a growth goes on.
        for size in range(2, 65):
            rule = RULES[size % len(RULES)]
            table = Growing(rule, size, 1)
            growing = None
            for key in mixed(range(8 * size), size):
                if len(table.lays()[1]) > 8 * size:
                    break
                table.put(key)
                older, newer = table.lays()
                if older is None:
                    self.assertLessEqual(4 * len(table.all_told()), 3 * len(newer))
                elif growing is not None:
                    self.assertEqual((len(older), len(newer)), growing)
                growing = None if older is None else (len(older), len(newer))
                if growing:
                    self.assertEqual(growing[1], 2 * growing[0])

    def test_all_told_and_lays_and_moved_move_nothing(self):
        table = table_of(ONCE, 16, 1, range(13))
        before = all_said(table)
        for turn in range(20):
            self.assertEqual(all_said(table), before)
        self.assertIsNotNone(before[0][0])


class LongRuns(Grown):
    def run_of(self, rule, size, step, turn, deeds, keys):
        """Puts prevail for a while, then the others, and so on."""
        number = drawn(turn)
        table = Growing(rule, size, step)
        model = Model(size, step)
        for deed in range(deeds):
            lot = number(10)
            often = 7 if deed // 40 % 3 < 2 else 3
            name = "put" if lot < often else "drop" if lot < often + 2 else "has"
            self.do(table, model, name, number(keys))
            self.look_at(table, rule, model)
        return model

    def test_held_against_the_model(self):
        growths = 0
        for turn, rule in enumerate(RULES):
            for size in (2, 3, 4, 5, 7, 8):
                for step in STEPS:
                    growths += self.run_of(rule, size, step, turn * 50 + size * 5 + step, 150, 60).growths
        self.assertGreater(growths, 500)

    def test_greater_sizes(self):
        for turn, rule in enumerate(RULES):
            self.run_of(rule, 33, 1 + turn % 4, turn, 150, 70)

    def test_keys_from_all_over(self):
        for turn, rule in enumerate(RULES):
            for step in STEPS:
                number = drawn(turn * 4 + step)
                keys = keys_of(40, turn)
                table = Growing(rule, 3, step)
                model = Model(3, step)
                for deed in range(120):
                    self.do(table, model, ("put", "put", "has", "drop")[number(4)], keys[number(40)])
                    self.look_at(table, rule, model)
                for key in keys:
                    self.do(table, model, "has", key)

    def test_no_deed_moves_more_than_it_may(self):
        for step in STEPS:
            number = drawn(step)
            table = Growing(("times", 7, 5), 2, step)
            for deed in range(600):
                before = table.moved()
                (table.put, table.put, table.drop, table.has)[number(4)](number(200))
                self.assertLessEqual(table.moved() - before, step)
                self.assertGreaterEqual(table.moved(), before)

    def test_great_sizes(self):
        for turn, rule in enumerate(RULES):
            number = drawn(turn)
            size = (2, 3, 64, 33, 47)[turn % 5]
            table = Growing(rule, size, 1 + turn % 4)
            model = Model(size, 1 + turn % 4)
            for deed in range(420):
                self.do(table, model, "put", number(1000000) if turn % 2 else deed * 3)
                if deed % 7 == 0:
                    self.do(table, model, "has", deed * 2)
                if deed % 11 == 0:
                    self.do(table, model, "drop", deed)
                self.look_at(table, rule, model, deed % 60 == 59)
            self.assertGreater(len(table.lays()[1]), 256)


class GreatSizes(Grown):
    def grow(self, rule, size, step):
        """Puts up to the first that is refused; the keys that are there then."""
        table = Growing(rule, size, step)
        keys = []
        while len(keys) < 2000:
            key = len(keys) * 7919 % 1000000
            try:
                self.assertIs(table.put(key), True)
            except Full:
                return table, keys
            keys.append(key)
        self.fail("never full")

    def test_homes_above_sixty_four(self):
        table = table_of(ONCE, 64, 4, range(49))
        for key in (100, 127, 128, 999999):
            table.put(key)
        for key in range(20):
            table.has(key)
        older, newer = table.lays()
        self.assertEqual((older, len(newer)), (None, 128))
        # 128 has come one on from its home, so it stands ahead of 1, and each one behind up to 48 is pushed.
        self.assertEqual(newer, [0, 128] + list(range(1, 49)) + [None] * 13 + [999999] + [None] * 36 + [100] +
                         [None] * 26 + [127])
        table = table_of(("told", (999, 65)), 64, 4, range(60))
        for key in range(20):
            table.has(key)
        self.assertEqual(table.lays()[1][999 % 128], 0)
        self.assertEqual(table.lays()[1][65], 1)
        table = table_of(("high", 1, 10), 64, 4, [key * 16 for key in range(60)])
        for key in range(20):
            table.has(key)
        self.assertEqual(table.lays()[1][:120], [
            None if place % 2 else place * 8 for place in range(120)
        ])

    def test_full(self):
        for turn, rule in enumerate(RULES):
            for size, most in ((64, 1024), (2, 1024), (3, 768), (33, 528), (63, 1008), (16, 1024)):
                if turn % 3 == size % 3:
                    table, keys = self.grow(rule, size, 1 + turn % 4)
                    older, newer = table.lays()
                    self.assertEqual((older, len(newer), len(keys)), (None, most, room(most)), (rule, size))
                    self.assertTrue(is_lay(rule, most, keys, newer))
                    self.assertEqual(table.all_told(), sorted(keys))

    def test_full_changes_nothing(self):
        for rule in (ONCE, ("high", 999999, 30), ("told", (3, 999, 0))):
            for step in (1, 4):
                table, keys = self.grow(rule, 64, step)
                before = all_said(table)
                for key in (999999, 999998, keys[-1] + 1):
                    self.refused(Full, table.put, key)
                    self.assertIs(table.has(key), False)
                    self.assertEqual(all_said(table), before)
                # What is there may be put, and what is no key is refused first.
                self.assertIs(table.put(keys[0]), False)
                self.refused(BadKey, table.put, -1)
                self.assertEqual(all_said(table), before)
                # Room again behind a drop.
                self.assertIs(table.drop(keys[5]), True)
                self.assertIs(table.put(999999), True)
                self.refused(Full, table.put, keys[5])
                self.assertEqual(table.all_told(), sorted(keys[:5] + keys[6:] + [999999]))
                self.assertEqual((table.moved(), len(table.lays()[1])), (before[2], 1024))

    def test_five_hundred_and_twelve_may_grow(self):
        table = table_of(ONCE, 64, 4, range(384))
        self.assertEqual((table.lays()[0], len(table.lays()[1])), (None, 512))
        self.assertIs(table.put(384), True)
        self.assertEqual(len(table.lays()[1]), 1024)
        # Twice 528 would be above.
        table = table_of(ONCE, 33, 4, range(396))
        self.assertEqual((table.lays()[0], len(table.lays()[1])), (None, 528))
        self.refused(Full, table.put, 396)

    def test_moved_together(self):
        # Each growth moves all the keys that the older row had, where none is dropped.
        for step in STEPS:
            table, keys = self.grow(ONCE, 64, step)
            self.assertEqual(table.moved(), 48 + 96 + 192 + 384)


class Apart(Grown):
    def test_two_tables_do_not_touch_each_other(self):
        for step in STEPS:
            number = drawn(step)
            tables = (Growing(ONCE, 4, step), Growing(ONCE, 4, step))
            models = (Model(4, step), Model(4, step))
            for deed in range(200):
                own = number(2)
                other = all_said(tables[1 - own])
                self.do(tables[own], models[own], ("put", "put", "has", "drop")[number(4)], number(40))
                self.look_at(tables[own], ONCE, models[own])
                self.assertEqual(all_said(tables[1 - own]), other)

    def test_lists_that_are_told_are_new_ones(self):
        for keys in (range(5), range(7), range(40)):
            table = table_of(ONCE, 8, 1, keys)
            before = copy.deepcopy(all_said(table))
            for told in table.lays() + (table.all_told(),):
                if told is not None:
                    told[0] = 99
                    told.pop()
                    told.append(-1)
            self.assertEqual(all_said(table), before)
            held = table.lays()
            kept = copy.deepcopy(held)
            table.put(77)
            table.drop(0)
            self.assertEqual(held, kept)

    def test_kinds(self):
        table = table_of(ONCE, 8, 1, range(7))
        self.assertEqual([type(told) for told in table.lays()], [list, list])
        self.assertIs(type(table.all_told()), list)
        self.assertIs(type(table.moved()), int)


class Refused(Grown):
    def test_rules(self):
        for rule in WRONG_RULES:
            for size in (5,) + WRONG_SIZES:
                for step in (1,) + WRONG_STEPS:
                    self.refused(BadRule, Growing, rule, size, step)

    def test_sizes(self):
        for rule in RULES:
            for size in WRONG_SIZES + (128, 1024):
                for step in (1,) + WRONG_STEPS:
                    self.refused(BadSize, Growing, rule, size, step)
            for size in (2, 64):
                self.assertEqual(Growing(rule, size, 1).lays(), (None, [None] * size))

    def test_steps(self):
        for rule in RULES:
            for step in WRONG_STEPS:
                self.refused(BadSize, Growing, rule, 5, step)
            for step in (1, 4):
                self.assertEqual(Growing(rule, 5, step).moved(), 0)

    def test_keys(self):
        for keys in ([], range(5), range(7)):
            table = table_of(ONCE, 8, 1, keys)
            before = all_said(table)
            for thing in WRONG_KEYS + (None,):
                handed = copy.deepcopy(thing)
                for deed in (table.put, table.drop, table.has):
                    self.refused(BadKey, deed, thing)
                self.assertEqual(thing, handed)
                # During a growth, too, what is refused moves no keys.
                self.assertEqual(all_said(table), before)

    def test_bounds_of_keys(self):
        table = Growing(ONCE, 64, 1)
        for key in (0, 999999):
            self.assertIs(table.put(key), True)
            self.assertIs(table.has(key), True)
        self.assertEqual(table.all_told(), [0, 999999])
        self.assertEqual(table.lays()[1][home_of(ONCE, 999999, 64)], 999999)


class Interface(unittest.TestCase):
    def test_arguments(self):
        self.assertEqual(list(inspect.signature(Growing).parameters), ["rule", "size", "step"])
        for name in ("put", "drop", "has"):
            self.assertEqual(list(inspect.signature(getattr(Growing, name)).parameters), ["self", "key"], name)
        for name in ("all_told", "lays", "moved"):
            self.assertEqual(list(inspect.signature(getattr(Growing, name)).parameters), ["self"], name)


if __name__ == "__main__":
    unittest.main()
