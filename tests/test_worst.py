"""[1], [2], [3], [71]: the worst keys."""

import copy
import inspect
import itertools
import unittest

from plain import RULES, WRONG_RULES, WRONG_SIZES, drawn, home_of
from strewn.errors import BadRule, BadSize, TooMany
from strewn.firsts import first_come, ways
from strewn.worst import worst

ONCE = ("times", 1, 0)
NO_NUMBERS = (True, False, None, "", "1", [], [1], (1,), 1.0)


def ways_by_the_words(rule, size, keys):
    """Each key to the first empty place from its home on; their ways together."""
    taken = [False] * size
    together = 0
    for key in keys:
        place = home_of(rule, key, size)
        while taken[place]:
            place = 0 if place == size - 1 else place + 1
            together += 1
        taken[place] = True
    return together


def rooms_of(rule, size, limit):
    """How many keys below the limit each home has."""
    homes = [home_of(rule, key, size) for key in range(limit)]
    return [homes.count(place) for place in range(size)]


def how_many_dealings(rooms, many):
    """At each count of keys, in how many ways it is dealt to the homes so far."""
    dealt = [1] + [0] * many
    for room in rooms:
        dealt = [sum(dealt[max(0, count - room):count + 1]) for count in range(many + 1)]
    return dealt[many]


def rule_with_rooms(rooms, homes):
    """A rule by which so many keys have each of these homes, the keys of one home far from each other."""
    left = list(rooms)
    told = []
    while any(left):
        for place, room in enumerate(left):
            if room:
                left[place] -= 1
                told.append(homes[place])
    return ("told", tuple(told)), sum(rooms)


class Worst(unittest.TestCase):
    def refused(self, error, *handed):
        with self.assertRaises(error) as caught:
            worst(*handed)
        self.assertIs(type(caught.exception), error)

    def look_at(self, rule, size, many, limit):
        """What is told, once its form and its ways are as asked for."""
        told = worst(rule, size, many, limit)
        self.assertIs(type(told), tuple)
        self.assertEqual(len(told), 2)
        keys, together = told
        self.assertIs(type(keys), list)
        self.assertEqual({type(key) for key in keys} | {type(together)}, {int})
        self.assertEqual(len(keys), many)
        self.assertEqual(keys, sorted(set(keys)))
        self.assertTrue(all(0 <= key < limit for key in keys), keys)
        self.assertEqual(together, ways_by_the_words(rule, size, keys), (rule, size, many, limit))
        self.assertEqual(together, ways(rule, first_come(rule, size, keys)))
        self.assertEqual(worst(rule, size, many, limit), told)
        return told


class ByHand(Worst):
    def test_together(self):
        told = (
            (ONCE, 5, 0, 0, 0),
            (ONCE, 5, 1, 1, 0),
            (ONCE, 5, 4, 4, 0),            # each at its home
            (ONCE, 5, 4, 5, 0),
            (ONCE, 5, 2, 6, 1),            # 0 and 5
            (ONCE, 5, 4, 64, 6),           # all of one home: 0, 1, 2 and 3
            (ONCE, 5, 4, 10, 4),           # 0, 5 and 1, 6: 0, 1, 1 and 2
            (ONCE, 2, 1, 64, 0),
            (("times", 0, 1), 64, 63, 64, 63 * 31),
            (("told", (0,)), 64, 63, 63, 63 * 31),
            (("high", 1, 1), 8, 7, 14, 21),
            (("high", 1, 1), 8, 7, 7, 9),  # four at 0, three at 4: 0, 1, 2, 3, and 0, 1, 2
        )
        for rule, size, many, limit, wanted in told:
            self.assertEqual(self.look_at(rule, size, many, limit)[1], wanted, (rule, size, many, limit))

    def test_the_only_ones(self):
        self.assertEqual(worst(ONCE, 5, 2, 6), ([0, 5], 1))
        self.assertEqual(worst(("told", (0, 1, 2, 2, 3)), 5, 2, 5), ([2, 3], 1))
        self.assertEqual(worst(("told", (0, 4, 2, 4, 4)), 5, 3, 5), ([1, 3, 4], 3))
        # Over the ring's end: three at 3 make 0, 1 and 2, and the one at 0 is pushed one on.
        self.assertEqual(worst(("told", (3, 2, 3, 0, 3)), 5, 4, 5), ([0, 2, 3, 4], 4))

    def test_over_the_rings_end(self):
        # One at 0 behind many at the last place makes a longer way than one of a home apart.
        rule = ("told", (4, 4, 4, 0, 2))
        self.assertEqual(worst(rule, 6, 4, 5), ([0, 1, 2, 3], 4))
        rule = ("told", (5, 5, 5, 0, 3))
        self.assertEqual(worst(rule, 6, 4, 5), ([0, 1, 2, 3], 5))


class GoneThrough(Worst):
    def hold(self, rule, size, many, limit):
        together = self.look_at(rule, size, many, limit)[1]
        most = max([ways_by_the_words(rule, size, keys) for keys in itertools.combinations(range(limit), many)])
        self.assertEqual(together, most, (rule, size, many, limit))

    def test_all_choices(self):
        for rule in RULES:
            for size in range(2, 7):
                for many in range(size):
                    for limit in range(many, 10):
                        self.hold(rule, size, many, limit)

    def test_greater_rings_that_are_nearly_full(self):
        for rule in RULES + (("times", 3, 1), ("times", 4, 2), ("high", 37, 7)):
            for size in (8, 9):
                for limit in (size - 1, size, 11):
                    self.hold(rule, size, size - 1, limit)
                    self.hold(rule, size, size - 2, limit)

    def test_drawn_homes(self):
        number = drawn(71)
        for turn in range(60):
            size = 3 + number(6)
            many = number(min(size, 6))
            limit = many + number(12 - many)
            rule = ("told", tuple([number(size) for key in range(max(1, limit))]))
            self.hold(rule, size, many, limit)

    def test_no_drawn_keys_make_longer_ways(self):
        number = drawn(72)
        tried = 0
        for turn in range(60):
            size = 10 + number(55)
            few = tuple([number(size) for place in range(3)])
            rule = ("told", tuple([few[number(3)] for key in range(64)]))
            many = number(size)
            limit = many + number(65 - many)
            keys, together = self.look_at(rule, size, many, limit)
            for draw in range(30):
                left = list(range(limit))
                drawn_keys = [left.pop(number(len(left))) for key in range(many)]
                self.assertLessEqual(ways_by_the_words(rule, size, drawn_keys), together)
                tried += 1
        self.assertEqual(tried, 1800)


class Edges(Worst):
    def test_a_count_of_nought(self):
        for rule in RULES:
            for size in (2, 3, 64):
                for limit in (0, 1, 5, 64):
                    self.assertEqual(worst(rule, size, 0, limit), ([], 0))

    def test_a_limit_as_great_as_the_count(self):
        # No choice is left.
        for rule in RULES:
            for size in range(2, 65):
                for many in sorted({1, size // 2, size - 1}):
                    keys, together = self.look_at(rule, size, many, many)
                    self.assertEqual(keys, list(range(many)))

    def test_one_home_for_all(self):
        for size in (2, 3, 40, 64):
            for many in range(size):
                for limit in sorted({many, 64}):
                    together = self.look_at(("times", 0, 1), size, many, limit)[1]
                    self.assertEqual(together, many * (many - 1) // 2)

    def test_what_is_told_is_new_each_time(self):
        told = worst(ONCE, 5, 2, 6)
        told[0].append(3)
        told[0][0] = 9
        self.assertEqual(worst(ONCE, 5, 2, 6), ([0, 5], 1))


class Dealings(Worst):
    def hold(self, rule, size, many, limit):
        dealings = how_many_dealings(rooms_of(rule, size, limit), many)
        if dealings > 4000:
            self.refused(TooMany, rule, size, many, limit)
        else:
            self.look_at(rule, size, many, limit)
        return dealings

    def test_exactly_as_many_as_may_be(self):
        told = (
            (9, (1, 1, 1, 1, 3, 4, 4, 4, 9), 4000),
            (19, (1, 1, 1, 1, 3, 4, 4, 4, 9), 4000),
            (23, (1, 1, 3, 4, 4, 4, 6, 9), 4000),
            (17, (17, 4, 4, 4, 1, 1, 1, 1, 1), 4000),    # what is left goes to the first: five times, twice, and so on
            (10, (1, 2, 2, 2, 4, 4, 4, 5), 3999),
            (11, (1, 4, 4, 4, 4, 5, 6), 4001),
            (17, (1, 4, 4, 4, 4, 5, 6), 4001),
            (8, (1, 1, 1, 2, 3, 5, 5, 5, 7), 4001),
            (9, (2, 2, 2, 2, 3, 3, 8, 8), 4002),
        )
        for many, rooms, dealings in told:
            for order in (rooms, rooms[3:] + rooms[:3]):
                for size, homes in ((24, range(0, 24, 2)), (64, range(0, 64, 5)), (25, range(24, -1, -1))):
                    rule, limit = rule_with_rooms(order, list(homes))
                    self.assertEqual(sorted(rooms_of(rule, size, limit))[-len(rooms):], sorted(rooms))
                    self.assertEqual(self.hold(rule, size, many, limit), dealings)

    def test_one_key_more_is_too_many(self):
        # Each of the keys below the limit has a home of its own: so many dealings as choices of two, of three ..
        self.assertEqual(self.hold(ONCE, 64, 2, 64), 2016)
        self.assertEqual(self.hold(ONCE, 64, 3, 29), 3654)
        self.assertEqual(self.hold(ONCE, 64, 3, 30), 4060)
        self.assertEqual(self.hold(ONCE, 64, 26, 29), 3654)
        self.assertEqual(self.hold(ONCE, 64, 27, 30), 4060)
        self.assertEqual(self.hold(ONCE, 64, 61, 63), 1953)
        self.assertEqual(self.hold(ONCE, 64, 62, 64), 2016)
        self.assertEqual(self.hold(ONCE, 64, 61, 64), 41664)

    def test_far_too_many(self):
        for rule in (ONCE, ("times", 7, 5), ("high", 1, 6)):
            for size, many in ((64, 32), (63, 31), (40, 20), (30, 15)):
                self.assertGreater(self.hold(rule, size, many, 64), 1000000)

    def test_all_over(self):
        number = drawn(4000)
        refused = 0
        for turn in range(400):
            rule = RULES[number(len(RULES))]
            size = 2 + number(63)
            many = number(size)
            limit = many + number(65 - many)
            refused += self.hold(rule, size, many, limit) > 4000
        self.assertGreater(refused, 40)

    def test_keys_of_one_home_are_not_counted_apart(self):
        # There are more than a million choices of keys, but few dealings.
        self.assertEqual(self.hold(("high", 1, 1), 64, 20, 64), 21)


class Refused(Worst):
    def test_rules(self):
        for rule in WRONG_RULES:
            handed = copy.deepcopy(rule)
            for size in (5,) + WRONG_SIZES:
                for many, limit in ((2, 6), (-1, 6), (5, 6), (2, 1), (2, 65), (None, None)):
                    self.refused(BadRule, rule, size, many, limit)
            self.refused(BadRule, rule, 64, 32, 64)
            self.assertEqual(rule, handed)

    def test_sizes(self):
        for rule in RULES:
            for size in WRONG_SIZES:
                for many, limit in ((0, 0), (1, 6), (-1, 6), (2, 1), (2, 65), (None, None)):
                    self.refused(BadSize, rule, size, many, limit)
        self.assertEqual(worst(ONCE, 2, 1, 64)[1], 0)
        self.assertEqual(worst(ONCE, 64, 1, 64)[1], 0)

    def test_counts(self):
        for rule in RULES:
            for size in (2, 5, 64):
                for many in (-1, size, size + 1, 1000) + NO_NUMBERS:
                    for limit in (64, 5, 65, None):
                        self.refused(BadSize, rule, size, many, limit)
        for size in (2, 5, 64):
            self.assertEqual(worst(ONCE, size, 0, 0), ([], 0))
            self.assertEqual(worst(ONCE, size, size - 1, size - 1), (list(range(size - 1)), 0))

    def test_limits(self):
        for rule in RULES:
            for size, many in ((2, 0), (2, 1), (5, 3), (64, 0), (64, 63)):
                for limit in (many - 1, 65, 66, -1, 1000) + NO_NUMBERS:
                    self.refused(BadSize, rule, size, many, limit)
            for size, many in ((2, 0), (2, 1), (5, 3), (64, 0), (64, 63)):
                self.assertEqual(len(worst(rule, size, many, many)[0]), many)
        for size, many in ((2, 1), (5, 3), (64, 0), (64, 63)):
            self.assertEqual(len(worst(("times", 0, 1), size, many, 64)[0]), many)

    def test_bad_size_ahead_of_too_many(self):
        self.refused(TooMany, ONCE, 64, 32, 64)
        self.refused(BadSize, ONCE, 65, 32, 64)
        self.refused(BadSize, ONCE, 64, 64, 64)
        self.refused(BadSize, ONCE, 64, 32, 65)
        self.refused(BadSize, ONCE, 64, 32, 31)
        self.refused(BadSize, ONCE, 64, True, 64)


class Interface(unittest.TestCase):
    def test_arguments(self):
        self.assertEqual(list(inspect.signature(worst).parameters), ["rule", "size", "many", "limit"])


if __name__ == "__main__":
    unittest.main()
