"""[1], [2], [3], [41], [42]: averages over all scatterings."""

import fractions
import inspect
import itertools
import math
import unittest

from plain import WRONG_SIZES
from strewn.averages import hit, miss, spread
from strewn.errors import BadSize, TooMany
from strewn.firsts import first_come, ways

SMALL = [(size, many) for size in range(2, 6) for many in range(size)] + [(6, 3), (6, 4), (6, 5), (7, 3), (7, 4)]


def scattered(size, many):
    """For each scattering: its ways together, and which places are taken."""
    for homes in itertools.product(range(size), repeat=many):
        places = [False] * size
        together = 0
        for place in homes:
            while places[place]:
                place = (place + 1) % size
                together += 1
            places[place] = True
        yield together, places


def looks_of_missing(places):
    looks = 0
    for place in range(len(places)):
        looks += 1
        while places[place]:
            place = (place + 1) % len(places)
            looks += 1
    return looks


def gone_through(size, many):
    """The spread, and hit and miss as Python's own fractions."""
    counts = {}
    looks = 0
    for together, places in scattered(size, many):
        counts[together] = counts.get(together, 0) + 1
        looks += looks_of_missing(places)
    total = sum([together * count for together, count in counts.items()])
    told = [counts.get(together, 0) for together in range(max(counts) + 1)]
    hits = 1 + fractions.Fraction(total, size ** many * many) if many else None
    return told, hits, fractions.Fraction(looks, size ** many * size)


def with_one_empty(size, many):
    """In how many scatterings a place that is told beforehand stays empty: by turning the ring, so many of size."""
    return (size - many) * size ** many // size if size else 1


def run_of(size, many, long):
    """In how many scatterings a told place is empty, so many behind it are taken, and the one behind these is empty.

    The keys of the run fill all but the last of its places and that one; the others stay among the other places."""
    within = with_one_empty(long + 1, long)
    return math.comb(many, long) * within * with_one_empty(size - long - 1, many - long)


def miss_by_runs(size, many):
    """The average by the lengths of the runs, not by any series: a run of so many takes 1 to so many looks and one."""
    if many == size - 1:
        return fractions.Fraction(size + 1, 2)
    looks = 0
    for long in range(many + 1):
        # The empty place behind a run takes one look, and each home in the run one more than is left of it.
        looks += run_of(size, many, long) * (long + 1) * (long + 2) // 2
    return fractions.Fraction(looks, size ** many)


class Averages(unittest.TestCase):
    def refused(self, error, deed, *handed):
        with self.assertRaises(error) as caught:
            deed(*handed)
        self.assertIs(type(caught.exception), error)

    def is_fraction(self, told, wanted):
        self.assertIs(type(told), tuple)
        self.assertEqual([type(part) for part in told], [int, int])
        self.assertEqual(told, (wanted.numerator, wanted.denominator))


class Spread(Averages):
    def test_by_hand(self):
        told = (
            (2, 0, [1]),
            (2, 1, [2]),
            (3, 1, [3]),
            (3, 2, [6, 3]),
            (64, 0, [1]),
            (64, 1, [64]),
            (64, 2, [64 * 63, 64]),
            (4, 3, [24, 24, 12, 4]),
        )
        for size, many, wanted in told:
            self.assertEqual(spread(size, many), wanted, (size, many))

    def test_gone_through(self):
        for size, many in SMALL + [(9, 3), (12, 2), (16, 3), (8, 4)]:
            if size ** many <= 4096:
                self.assertEqual(spread(size, many), gone_through(size, many)[0], (size, many))

    def test_by_told_rules(self):
        for size, many in ((3, 2), (4, 3), (5, 4)):
            counts = [0] * (many * (many - 1) // 2 + 1)
            for homes in itertools.product(range(size), repeat=many):
                rule = ("told", homes)
                counts[ways(rule, first_come(rule, size, list(range(many))))] += 1
            self.assertEqual(spread(size, many), counts)

    def test_together_all_scatterings(self):
        for size in range(2, 65):
            for many in range(size):
                if size ** many > 4096:
                    break
                told = spread(size, many)
                self.assertIs(type(told), list)
                self.assertEqual(sum(told), size ** many, (size, many))
                self.assertEqual(len(told), many * (many - 1) // 2 + 1)
                self.assertGreaterEqual(told[-1], size if many else 1)

    def test_too_many(self):
        for size, many in ((64, 2), (16, 3), (8, 4)):
            self.assertEqual(size ** many, 4096)
            self.assertEqual(sum(spread(size, many)), 4096)
        for size, many in ((17, 3), (9, 4), (6, 5), (64, 3), (64, 63), (64, 10), (7, 5), (7, 6)):
            self.assertGreater(size ** many, 4096)
            self.refused(TooMany, spread, size, many)

    def test_a_new_list_each_time(self):
        told = spread(3, 2)
        told.append(9)
        told[0] = 0
        self.assertEqual(spread(3, 2), [6, 3])


class HitAndMiss(Averages):
    def test_by_hand(self):
        self.assertEqual(hit(2, 1), (1, 1))
        self.assertEqual(hit(3, 2), (7, 6))     # three ways of one in nine scatterings of two keys
        self.assertEqual(hit(64, 1), (1, 1))
        self.assertEqual(hit(64, 2), (129, 128))
        self.assertEqual(miss(2, 0), (1, 1))
        self.assertEqual(miss(64, 0), (1, 1))
        self.assertEqual(miss(2, 1), (3, 2))
        self.assertEqual(miss(3, 1), (4, 3))
        self.assertEqual(miss(3, 2), (2, 1))
        self.assertEqual(miss(64, 1), (65, 64))

    def test_gone_through(self):
        for size, many in SMALL:
            told, hits, misses = gone_through(size, many)
            self.is_fraction(miss(size, many), misses)
            if many:
                self.is_fraction(hit(size, many), hits)

    def test_all_sizes_by_runs(self):
        for size in range(2, 65):
            before = fractions.Fraction(0)
            for many in range(size):
                misses = miss_by_runs(size, many)
                self.is_fraction(miss(size, many), misses)
                before += misses
                # A key that is put looks as one that is not there, with those that came ahead of it there.
                if many + 1 < size:
                    self.is_fraction(hit(size, many + 1), before / (many + 1))

    def test_one_empty_place(self):
        for size in range(2, 65):
            self.is_fraction(miss(size, size - 1), fractions.Fraction(size + 1, 2))

    def test_as_the_spread_tells(self):
        for size, many in ((8, 4), (16, 3), (64, 2), (5, 4), (4, 3), (6, 4)):
            total = sum([together * count for together, count in enumerate(spread(size, many))])
            self.is_fraction(hit(size, many), 1 + fractions.Fraction(total, size ** many * many))

    def test_lowest_terms(self):
        for size in (62, 63, 64):
            for many in range(1, size):
                for top, under in (hit(size, many), miss(size, many)):
                    self.assertGreater(under, 0)
                    self.assertEqual(math.gcd(top, under), 1)
                    self.assertGreaterEqual(top, under)


class Bounds(Averages):
    def test_sizes(self):
        for deed in (spread, hit, miss):
            for size in WRONG_SIZES:
                for many in (0, 1, 3, -1, None, True):
                    self.refused(BadSize, deed, size, many)
            for size in (2, 64):
                deed(size, 1)

    def test_counts(self):
        for size in (2, 3, 4, 5, 64):
            for deed in (spread, hit, miss):
                for many in (-1, size, size + 1, 1000, True, False, None, "", "1", [], [1], (1,)):
                    self.refused(BadSize, deed, size, many)
            self.assertEqual(spread(size, 0), [1])
            self.assertEqual(miss(size, 0), (1, 1))
            self.refused(BadSize, hit, size, 0)
            self.assertEqual(hit(size, 1), (1, 1))
            self.assertEqual(len(hit(size, size - 1)), 2)
            self.assertEqual(len(miss(size, size - 1)), 2)
        for size in (2, 3, 4, 5):
            self.assertEqual(sum(spread(size, size - 1)), size ** (size - 1))

    def test_bad_size_ahead_of_too_many(self):
        for size, many in ((65, 3), (64, 64), (6, 6), (100, 99), (1, 4097)):
            self.refused(BadSize, spread, size, many)


class Interface(unittest.TestCase):
    def test_arguments(self):
        for deed in (spread, hit, miss):
            self.assertEqual(list(inspect.signature(deed).parameters), ["size", "many"])


if __name__ == "__main__":
    unittest.main()
