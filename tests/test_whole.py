"""[1], [2], [3]: the whole promise, over all files together."""

import fractions
import inspect
import itertools
import math
import os
import pathlib
import subprocess
import sys
import unittest

from plain import RULES, all_lists, drawn, home_of, is_lay, keys_of, mixed, sum_of_ways
from strewn import averages, chains, errors, firsts, growing, homes, rows, worst

TOP = pathlib.Path(__file__).resolve().parent.parent
ONCE = ("times", 1, 0)


def row_of(rule, size, keys):
    row = rows.Row(rule, size)
    for key in keys:
        row.put(key)
    return row


def taken(places):
    return [key is not None for key in places]


class Lays(unittest.TestCase):
    def test_a_rows_lay_is_that_of_its_keys(self):
        for turn, rule in enumerate(RULES):
            number = drawn(turn)
            row = rows.Row(rule, 9)
            keys = set()
            for deed in range(200):
                key = number(14)
                if number(3) == 0:
                    self.assertIs(row.drop(key), key in keys)
                    keys.discard(key)
                elif key in keys or len(keys) < 8:
                    self.assertIs(row.put(key), key not in keys)
                    keys.add(key)
                self.assertTrue(is_lay(rule, 9, keys, row.lay()))
                self.assertEqual(row.lay(), row_of(rule, 9, mixed(keys, deed)).lay())

    def test_there_is_no_other(self):
        for rule in RULES:
            for size, many in ((4, 3), (5, 3), (6, 4)):
                keys = keys_of(many, size)
                lays = [made for made in all_lists(size, keys) if is_lay(rule, size, keys, made)]
                self.assertEqual(lays, [row_of(rule, size, keys).lay()])

    def test_first_come_and_lay_take_the_same_places(self):
        for rule in RULES:
            for size, many in ((2, 1), (5, 4), (9, 5), (64, 63)):
                keys = keys_of(many, size)
                lay = row_of(rule, size, keys).lay()
                for turn in range(5):
                    places = firsts.first_come(rule, size, mixed(keys, turn))
                    self.assertEqual(taken(places), taken(lay))
                    self.assertEqual(firsts.ways(rule, places), firsts.ways(rule, lay))
                    self.assertEqual(firsts.ways(rule, lay), sum_of_ways(rule, lay))

    def test_chains_and_lays_have_the_same_homes(self):
        for rule in RULES:
            keys = keys_of(40, 2)
            for place, chain in enumerate(chains.chains(rule, 64, keys)):
                for key in chain:
                    self.assertEqual(homes.home(rule, key, 64), place)
                    self.assertEqual(home_of(rule, key, 64), place)


class Exact(unittest.TestCase):
    """Each scattering as a rule that tells the homes of the keys 0, 1, .. one by one."""

    def test_over_all_scatterings(self):
        for size, many in ((2, 1), (3, 1), (3, 2), (4, 2), (4, 3), (5, 3), (5, 4), (8, 3)):
            keys = list(range(many))
            counts = [0] * (many * (many - 1) // 2 + 1)
            within = [0] * (many + 1)
            looks = 0
            scatterings = 0
            for told in itertools.product(range(size), repeat=many):
                rule = ("told", told)
                places = firsts.first_come(rule, size, keys)
                counts[firsts.ways(rule, places)] += 1
                looks += self.looks_of_missing(taken(places))
                most = max([len(chain) for chain in chains.chains(rule, size, keys)])
                for above in range(most, many + 1):
                    within[above] += 1
                scatterings += 1
            self.assertEqual(averages.spread(size, many), counts)
            self.assertEqual(chains.longest(size, many), within)
            total = sum([together * count for together, count in enumerate(counts)])
            hits = 1 + fractions.Fraction(total, many * scatterings)
            self.assertEqual(averages.hit(size, many), (hits.numerator, hits.denominator))
            misses = fractions.Fraction(looks, size * scatterings)
            self.assertEqual(averages.miss(size, many), (misses.numerator, misses.denominator))
            above = [scatterings - count for count in within]
            mean = fractions.Fraction(sum(above), scatterings)
            self.assertEqual(chains.mean_longest(size, many), (mean.numerator, mean.denominator))

    def looks_of_missing(self, places):
        looks = 0
        for place in range(len(places)):
            looks += 1
            while places[place]:
                place = (place + 1) % len(places)
                looks += 1
        return looks

    def test_fractions(self):
        for size in (2, 3, 10, 64):
            for many in sorted({1, size // 2, size - 1}):
                for told in (averages.hit(size, many), averages.miss(size, many), chains.mean_longest(size, many)):
                    self.assertIs(type(told), tuple)
                    self.assertEqual([type(part) for part in told], [int, int])
                    self.assertGreater(told[1], 0)
                    self.assertEqual(math.gcd(told[0], told[1]), 1)


class Growing(unittest.TestCase):
    def test_what_was_put_and_not_dropped(self):
        for turn, rule in enumerate(RULES):
            for step in (1, 2, 3, 4):
                number = drawn(turn * 4 + step)
                table = growing.Growing(rule, 2 + turn, step)
                keys = set()
                both = None
                for deed in range(250):
                    key = number(50)
                    before = table.moved()
                    name = ("put", "put", "put", "drop", "has")[number(5)]
                    there = key in keys
                    self.assertIs(getattr(table, name)(key), not there if name == "put" else there)
                    keys = keys | {key} if name == "put" else keys - {key} if name == "drop" else keys
                    self.assertEqual(table.all_told(), sorted(keys))
                    self.assertLessEqual(table.moved() - before, step)
                    both = self.look_at_sizes(table, both)
                    self.look_at_lays(rule, table)

    def look_at_sizes(self, table, both):
        """No growth begins before the one ahead is over; the sizes of both rows, where both are there."""
        older, newer = table.lays()
        if older is None:
            return None
        sizes = (len(older), len(newer))
        self.assertEqual(sizes[1], 2 * sizes[0])
        if both is not None:
            self.assertEqual(sizes, both)
        return sizes

    def look_at_lays(self, rule, table):
        for lay in table.lays():
            if lay is not None and len(lay) <= 64:
                keys = [key for key in lay if key is not None]
                self.assertEqual(lay, row_of(rule, len(lay), keys).lay())


class Worst(unittest.TestCase):
    def test_no_keys_make_longer_ways(self):
        for rule in RULES:
            for size, many, limit in ((5, 4, 9), (6, 3, 10), (7, 5, 9), (4, 3, 8)):
                keys, together = worst.worst(rule, size, many, limit)
                self.assertEqual(firsts.ways(rule, firsts.first_come(rule, size, keys)), together)
                self.assertEqual(firsts.ways(rule, row_of(rule, size, keys).lay()), together)
                for others in itertools.combinations(range(limit), many):
                    lay = row_of(rule, size, others).lay()
                    self.assertLessEqual(firsts.ways(rule, lay), together)

    def test_no_longer_than_the_longest_of_all_scatterings(self):
        for size, many in ((3, 2), (4, 3), (5, 4), (16, 3)):
            longest = len(averages.spread(size, many)) - 1
            for rule in RULES:
                self.assertLessEqual(worst.worst(rule, size, many, many + 2)[1], longest)
            self.assertEqual(worst.worst(("times", 0, 0), size, many, many)[1], longest)


class Refusals(unittest.TestCase):
    def refused(self, error, deed, *handed):
        with self.assertRaises(errors.StrewError) as caught:
            deed(*handed)
        self.assertIs(type(caught.exception), error, (deed, handed))

    def test_of_several_the_first_told(self):
        rule, no_rule = ONCE, ("times", 1)
        self.refused(errors.BadRule, homes.home, no_rule, -1, 1)
        self.refused(errors.BadKey, homes.home, rule, -1, 1)
        self.refused(errors.BadRule, rows.Row, no_rule, 1)
        self.refused(errors.BadRule, firsts.first_come, no_rule, 1, [-1])
        self.refused(errors.BadSize, firsts.first_come, rule, 1, [-1])
        self.refused(errors.BadKey, firsts.first_come, rule, 2, [0, 1, -1])
        self.refused(errors.Full, firsts.first_come, rule, 2, [0, 1])
        self.refused(errors.BadRule, firsts.ways, no_rule, [-1])
        self.refused(errors.BadSize, firsts.ways, rule, [-1])
        self.refused(errors.BadKey, firsts.ways, rule, [-1, None])
        self.refused(errors.BadSize, averages.spread, 64, 64)
        self.refused(errors.TooMany, averages.spread, 64, 63)
        self.refused(errors.BadRule, chains.chains, no_rule, 1, [-1])
        self.refused(errors.BadSize, chains.chains, rule, 1, [-1])
        self.refused(errors.BadKey, chains.chains, rule, 2, [3, 3])
        self.refused(errors.BadRule, growing.Growing, no_rule, 1, 0)
        self.refused(errors.BadSize, growing.Growing, rule, 1, 0)
        self.refused(errors.BadSize, growing.Growing, rule, 2, 0)
        self.refused(errors.BadRule, worst.worst, no_rule, 1, 32, 64)
        self.refused(errors.BadSize, worst.worst, rule, 64, 32, 65)
        self.refused(errors.TooMany, worst.worst, rule, 64, 32, 64)

    def test_truths_are_no_whole_numbers(self):
        for truth in (True, False):
            self.refused(errors.BadRule, homes.home, ("times", truth, 0), 1, 2)
            self.refused(errors.BadKey, homes.home, ONCE, truth, 2)
            self.refused(errors.BadKey, rows.Row(ONCE, 5).put, truth)
            self.refused(errors.BadKey, firsts.first_come, ONCE, 5, [truth])
            self.refused(errors.BadKey, firsts.ways, ONCE, [truth, None])
            self.refused(errors.BadKey, chains.chains, ONCE, 5, [truth])
            self.refused(errors.BadKey, growing.Growing(ONCE, 5, 1).put, truth)
            for deed in (averages.spread, averages.hit, averages.miss, chains.longest, chains.mean_longest):
                self.refused(errors.BadSize, deed, 5, truth)
                self.refused(errors.BadSize, deed, truth, 1)
            self.refused(errors.BadSize, growing.Growing, ONCE, 5, truth)
            self.refused(errors.BadSize, worst.worst, ONCE, 5, truth, 5)
            self.refused(errors.BadSize, worst.worst, ONCE, 5, 0, truth)


SAID = """
from strewn import averages, chains, firsts, growing, rows, worst
table = growing.Growing(("high", 5, 3), 3, 2)
for deed in range(300):
    (table.put, table.put, table.drop, table.has)[deed * deed % 7 % 4](deed * 7919 % 97)
print(table.lays(), table.all_told(), table.moved())
keys = [key * 7919 % 1000000 for key in range(20)]
print(firsts.first_come(("times", 7, 5), 32, keys), chains.chains(("times", 7, 5), 8, keys))
print(averages.spread(5, 4), averages.hit(64, 60), averages.miss(64, 60), chains.mean_longest(20, 40))
print(worst.worst(("times", 7, 5), 16, 4, 20), worst.worst(("told", (3, 999, 0)), 40, 9, 64))
"""


class Alone(unittest.TestCase):
    def test_nothing_hangs_on_chance(self):
        said = []
        for seed in ("0", "1", "77"):
            around = dict(os.environ, PYTHONHASHSEED=seed)
            ran = subprocess.run([sys.executable, "-c", SAID], cwd=TOP, env=around, capture_output=True, text=True)
            self.assertEqual(ran.returncode, 0, ran.stderr)
            said.append(ran.stdout)
        self.assertEqual(said, [said[0]] * 3)


class Interface(unittest.TestCase):
    def test_all_is_there(self):
        told = (
            (homes.home, "rule key size"),
            (rows.Row, "rule size"),
            (firsts.first_come, "rule size keys"),
            (firsts.ways, "rule places"),
            (averages.spread, "size many"),
            (averages.hit, "size many"),
            (averages.miss, "size many"),
            (chains.chains, "rule size keys"),
            (chains.longest, "size many"),
            (chains.mean_longest, "size many"),
            (growing.Growing, "rule size step"),
            (worst.worst, "rule size many limit"),
        )
        for deed, arguments in told:
            self.assertEqual(list(inspect.signature(deed).parameters), arguments.split())
        for name in ("BadRule", "BadKey", "BadSize", "Full", "TooMany"):
            self.assertEqual(getattr(errors, name).__bases__, (errors.StrewError,))


if __name__ == "__main__":
    unittest.main()
