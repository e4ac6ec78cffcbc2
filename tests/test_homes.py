"""[1], [3], [11], [12]: homes of keys, and what is refused."""

import copy
import inspect
import unittest

from strewn import homes
from strewn.errors import BadKey, BadRule, BadSize
from strewn.homes import home

TIMES = ("times", 5, 3)
HIGH = ("high", 5, 3)
TOLD = ("told", (3, 999, 0))


class Stubborn:
    """A thing that lets itself be neither compared, shown, counted nor asked."""

    def fail(self, *rest):
        raise RuntimeError("not to be asked")

    __eq__ = __ne__ = __lt__ = __le__ = __gt__ = __ge__ = __hash__ = fail
    __len__ = __bool__ = __int__ = __index__ = __iter__ = __getitem__ = __repr__ = __str__ = fail


def deep_list():
    deep = []
    for step in range(100000):
        deep = [deep]
    return deep


def no_numbers():
    """Things of every kind that are no whole numbers."""
    return [
        True, False, None, "", "1", "times", "told", [], [1], (), (1,), (1, 2, 3), {}, {1: 1},
        set(), {2}, b"2", 2.0, float("nan"), float("inf"), 2j, object(), int, len, Stubborn(), deep_list(),
    ]


class Refusing(unittest.TestCase):
    def refused(self, error, rule, key, size):
        with self.assertRaises(error) as caught:
            home(rule, key, size)
        self.assertIs(type(caught.exception), error)


class ByTimes(unittest.TestCase):
    def test_by_hand(self):
        told = (
            (5, 3, 7, 10, 8),            # 35 and 3 are 38
            (1, 0, 63, 64, 63),
            (1, 0, 64, 64, 0),
            (1, 1, 1, 2, 0),
            (3, 4, 5, 7, 5),             # 19, by rest 7
        )
        self.look_at(told)

    def test_with_nought(self):
        told = (
            (0, 0, 999999, 64, 0),
            (0, 5, 999999, 2, 1),
            (0, 999999, 12345, 64, 63),  # a million is 64 times 15625
            (3, 0, 4, 7, 5),
            (3, 5, 0, 4, 1),
            (0, 0, 0, 2, 0),
        )
        self.look_at(told)

    def test_with_the_greatest(self):
        told = (
            (999999, 0, 999999, 64, 1),  # one short of nothing, twice
            (999999, 999999, 999999, 64, 0),
            (999999, 999999, 999999, 2, 0),
            (999999, 0, 999999, 2, 1),
            (999999, 999999, 0, 64, 63),
            (999999, 999999, 1, 64, 62),
            (999999, 1, 999999, 7, 1),   # 999999 is 7 times 142857
            (2, 999999, 999999, 10, 7),  # 1999998 and 999999 are 2999997
        )
        self.look_at(told)

    def look_at(self, told):
        for a, b, key, size, wanted in told:
            self.assertEqual(home(("times", a, b), key, size), wanted, (a, b, key, size))


class ByHigh(unittest.TestCase):
    def test_by_hand(self):
        told = (
            (5, 3, 5, 10, 1),            # 25, rest 1 by 8; 10 by 8
            (5, 3, 3, 10, 8),            # 15, rest 7 by 8; 70 by 8
            (1, 3, 3, 10, 3),            # 30 by 8
            (1, 3, 7, 64, 56),
            (4, 3, 2, 64, 0),            # 8, rest 0 by 8
            (4, 3, 3, 2, 1),             # 12, rest 4 by 8; 8 by 8
            (3, 3, 1, 2, 0),             # 3; 6 by 8
            (7, 10, 100, 64, 43),        # 700; 44800 by 1024
            (0, 30, 999999, 64, 0),
            (999999, 30, 0, 64, 0),
        )
        self.look_at(told)

    def test_with_one_bit(self):
        told = (
            (1, 1, 0, 64, 0),
            (1, 1, 1, 64, 32),
            (1, 1, 1, 2, 1),
            (1, 1, 1, 3, 1),
            (1, 1, 999999, 64, 32),
            (1, 1, 999998, 64, 0),
            (999999, 1, 999999, 63, 31),
        )
        self.look_at(told)

    def test_with_thirty_bits(self):
        # 2 to the power 30 is 1073741824
        told = (
            (1, 30, 999999, 64, 0),
            (1000, 30, 999999, 64, 59),      # 999999000; 63999936000 is 59 times and some
            (1000, 30, 999999, 2, 1),
            (999999, 30, 1073, 64, 63),      # 1072998927, just short of the power
            (999999, 30, 1074, 64, 0),       # 1073998926, rest 257102
            (999999, 30, 2000, 64, 55),      # 1999998000, rest 926256176
            (999999, 30, 2000, 2, 1),
            (999999, 30, 999999, 64, 20),    # 999998000001, rest 344361857
            (999999, 30, 999999, 2, 0),
        )
        self.look_at(told)

    def look_at(self, told):
        for a, bits, key, size, wanted in told:
            self.assertEqual(home(("high", a, bits), key, size), wanted, (a, bits, key, size))


class ByTold(unittest.TestCase):
    def test_with_one_number(self):
        for key in (0, 1, 2, 63, 64, 999999):
            self.assertEqual(home(("told", (7,)), key, 2), 1, key)
            self.assertEqual(home(("told", (7,)), key, 5), 2, key)
            self.assertEqual(home(("told", (7,)), key, 64), 7, key)

    def test_with_three_numbers(self):
        told = (
            (0, 64, 3),
            (1, 64, 39),     # 999 is 15 times 64 and 39
            (2, 64, 0),
            (3, 64, 3),
            (4, 10, 9),
            (4, 2, 1),
            (5, 10, 0),
            (10, 10, 9),     # 10 is 3 times 3 and 1
            (64, 64, 39),    # 64 is 21 times 3 and 1
            (999999, 2, 1),  # 999999 is 3 times 333333
        )
        for key, size, wanted in told:
            self.assertEqual(home(TOLD, key, size), wanted, (key, size))

    def test_with_sixty_four_numbers(self):
        rule = ("told", tuple(range(900, 964)))
        told = (
            (0, 64, 4),      # 900 is 14 times 64 and 4
            (63, 64, 3),
            (64, 64, 4),
            (65, 64, 5),
            (999999, 64, 3),
            (999999, 2, 1),
            (10, 7, 0),      # 910
        )
        for key, size, wanted in told:
            self.assertEqual(home(rule, key, size), wanted, (key, size))


class Places(unittest.TestCase):
    def test_each_home_is_a_place(self):
        rules = (TIMES, HIGH, TOLD, ("high", 999999, 30), ("times", 999999, 999999), ("told", (0, 999, 64, 2)))
        for rule in rules:
            for size in range(2, 65):
                for key in list(range(70)) + [999998, 999999]:
                    place = home(rule, key, size)
                    self.assertIs(type(place), int)
                    self.assertTrue(0 <= place < size, (rule, key, size, place))

    def test_the_same_each_time(self):
        for rule in (TIMES, HIGH, TOLD):
            told = [home(rule, key, 10) for key in range(30)]
            self.assertEqual([home(rule, key, 10) for key in range(30)], told)


class Bounds(Refusing):
    def taken(self, rule, key, size):
        place = home(rule, key, size)
        self.assertTrue(0 <= place < size, (rule, key, size))

    def test_keys(self):
        for rule in (TIMES, HIGH, TOLD):
            for key in (0, 1, 999998, 999999):
                self.taken(rule, key, 10)
            for key in (-1, 1000000, -999999, 10 ** 6000, -10 ** 6000):
                self.refused(BadKey, rule, key, 10)

    def test_sizes(self):
        for rule in (TIMES, HIGH, TOLD):
            for size in (2, 3, 63, 64):
                self.taken(rule, 7, size)
            for size in (1, 65, 0, -1, -2, 128, 10 ** 6000, -10 ** 6000):
                self.refused(BadSize, rule, 7, size)

    def test_times_numbers(self):
        for number in (0, 999999):
            self.taken(("times", number, 1), 7, 10)
            self.taken(("times", 1, number), 7, 10)
        for number in (-1, 1000000, 10 ** 6000):
            self.refused(BadRule, ("times", number, 1), 7, 10)
            self.refused(BadRule, ("times", 1, number), 7, 10)

    def test_high_numbers(self):
        for number in (0, 999999):
            self.taken(("high", number, 3), 7, 10)
        for number in (-1, 1000000, 10 ** 6000):
            self.refused(BadRule, ("high", number, 3), 7, 10)

    def test_high_bits(self):
        for bits in (1, 2, 29, 30):
            self.taken(("high", 5, bits), 7, 10)
        for bits in (0, 31, -1, 999999, 10 ** 6000):
            self.refused(BadRule, ("high", 5, bits), 7, 10)

    def test_how_many_are_told(self):
        for many in (1, 2, 63, 64):
            self.taken(("told", (5,) * many), 7, 10)
        for many in (0, 65, 1000):
            self.refused(BadRule, ("told", (5,) * many), 7, 10)

    def test_told_numbers(self):
        for number in (0, 999):
            for numbers in ((number,), (number, 5, 5), (5, 5, number)):
                self.taken(("told", numbers), 7, 10)
        for number in (-1, 1000, 10 ** 6000):
            for numbers in ((number,), (number, 5, 5), (5, number, 5), (5, 5, number)):
                self.refused(BadRule, ("told", numbers), 7, 10)


class WrongThings(Refusing):
    def test_keys(self):
        for rule in (TIMES, HIGH, TOLD):
            for thing in no_numbers():
                self.refused(BadKey, rule, thing, 10)

    def test_sizes(self):
        for rule in (TIMES, HIGH, TOLD):
            for thing in no_numbers():
                self.refused(BadSize, rule, 7, thing)

    def test_rules_of_other_kinds(self):
        for thing in no_numbers() + [0, 1, 999999, 10 ** 6000]:
            self.refused(BadRule, thing, 7, 10)

    def test_rules_that_are_lists_or_dicts(self):
        for rule in (TIMES, HIGH, TOLD):
            self.refused(BadRule, list(rule), 7, 10)
            self.refused(BadRule, dict(enumerate(rule)), 7, 10)

    def test_rules_too_short_or_too_long(self):
        wrong = (
            (), ("times",), ("times", 1), ("times", 1, 2, 3), ("times", (1, 2)),
            ("high",), ("high", 1), ("high", 1, 2, 3), ("high", (1, 2)),
            ("told",), ("told", (1,), (2,)), ("told", (1,), 2), ("told", 1, 2), ("told", 1),
        )
        for rule in wrong:
            self.refused(BadRule, rule, 7, 10)

    def test_sorts_that_are_none(self):
        for sort in ("", "Times", "HIGH", "told ", "time", "low", "t", "times\n"):
            self.refused(BadRule, (sort, 1, 2), 7, 10)
            self.refused(BadRule, (sort, (1, 2)), 7, 10)
            self.refused(BadRule, (sort,), 7, 10)

    def test_sorts_that_are_no_texts(self):
        for sort in [thing for thing in no_numbers() if not isinstance(thing, str)] + [0, 1, ("times",), ["told"]]:
            self.refused(BadRule, (sort, 1, 2), 7, 10)
            self.refused(BadRule, (sort, (1, 2)), 7, 10)

    def test_no_numbers_in_a_rule(self):
        for thing in no_numbers():
            self.refused(BadRule, ("times", thing, 1), 7, 10)
            self.refused(BadRule, ("times", 1, thing), 7, 10)
            self.refused(BadRule, ("high", thing, 1), 7, 10)
            self.refused(BadRule, ("high", 1, thing), 7, 10)
            for numbers in ((thing,), (thing, 1, 2), (1, thing, 2), (1, 2, thing)):
                self.refused(BadRule, ("told", numbers), 7, 10)

    def test_told_numbers_in_no_tuple(self):
        wrong = [thing for thing in no_numbers() if not isinstance(thing, tuple)]
        for thing in wrong + [[1, 2], {0: 1}, {1, 2}, range(3), "12", b"12", 1]:
            self.refused(BadRule, ("told", thing), 7, 10)


class WhichIsRaised(Refusing):
    def test_the_first_told(self):
        wrong_rules = (None, [], ("times", 1), ("told", ()), ("high", 5, 31))
        wrong_keys = (None, -1, 1000000, True, "7")
        wrong_sizes = (None, 1, 65, True, [])
        for rule, key, size in zip(wrong_rules, wrong_keys, wrong_sizes):
            self.refused(BadRule, rule, key, size)
            self.refused(BadRule, rule, key, 10)
            self.refused(BadRule, rule, 7, size)
            self.refused(BadKey, TIMES, key, size)
            self.refused(BadKey, HIGH, key, size)
            self.refused(BadKey, TOLD, key, size)

    def test_what_is_refused_changes_nothing(self):
        told = [home(TOLD, key, 10) for key in range(20)]
        for rule in (["told", [1, 2]], ("told", [3, 1]), ("told", {1: [2]}), ("times", [1], {2: 3})):
            before = copy.deepcopy(rule)
            self.refused(BadRule, rule, 7, 10)
            self.assertEqual(rule, before)
        key = [1, 2]
        size = {1: 2}
        self.refused(BadKey, TOLD, key, size)
        self.refused(BadSize, TOLD, 7, size)
        self.assertEqual((key, size), ([1, 2], {1: 2}))
        self.assertEqual([home(TOLD, number, 10) for number in range(20)], told)


class Interface(unittest.TestCase):
    def test_arguments(self):
        self.assertEqual(list(inspect.signature(homes.home).parameters), ["rule", "key", "size"])


if __name__ == "__main__":
    unittest.main()
