"""[3]: what fractions are."""

import math
import unittest

from strewn.fractions import fraction


class LowestTerms(unittest.TestCase):
    def test_by_hand(self):
        told = (
            ((1, 2), (1, 2)),
            ((6, 4), (3, 2)),
            ((12, 18), (2, 3)),
            ((7, 1), (7, 1)),
            ((64, 64), (1, 1)),
            ((100, 10), (10, 1)),
            ((17, 51), (1, 3)),
            ((-6, 4), (-3, 2)),
        )
        for (top, under), wanted in told:
            self.assertEqual(fraction(top, under), wanted, (top, under))

    def test_of_nought(self):
        for under in (1, 2, 7, 4096, -3):
            self.assertEqual(fraction(0, under), (0, 1), under)

    def test_under_comes_above_nought(self):
        self.assertEqual(fraction(6, -4), (-3, 2))
        self.assertEqual(fraction(-6, -4), (3, 2))
        self.assertEqual(fraction(5, -5), (-1, 1))

    def test_numbers_of_many_digits(self):
        top = 3 * 64 ** 63
        under = 2 * 64 ** 63
        self.assertEqual(fraction(top, under), (3, 2))
        self.assertEqual(fraction(top + 1, under), (top + 1, under))

    def test_all_small_ones(self):
        for top in range(-40, 41):
            for under in list(range(-40, 0)) + list(range(1, 41)):
                self.look_at(top, under)

    def look_at(self, top, under):
        made = fraction(top, under)
        self.assertIs(type(made), tuple)
        self.assertEqual([type(part) for part in made], [int, int])
        self.assertGreater(made[1], 0)
        self.assertEqual(math.gcd(made[0], made[1]), 1)
        self.assertEqual(made[0] * under, top * made[1])

    def test_no_fraction_is_made_with_nought_under(self):
        for top in (0, 1, -5):
            with self.assertRaises(ZeroDivisionError):
                fraction(top, 0)


if __name__ == "__main__":
    unittest.main()
