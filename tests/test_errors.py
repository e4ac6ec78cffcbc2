"""[3]: how the refusals stand."""

import unittest

from strewn import errors

REFUSALS = ("BadRule", "BadKey", "BadSize", "Full", "TooMany")


class Standing(unittest.TestCase):
    def test_all_are_there(self):
        for name in ("StrewError",) + REFUSALS:
            self.assertTrue(issubclass(getattr(errors, name), Exception), name)

    def test_strew_error_is_a_value_error(self):
        self.assertEqual(errors.StrewError.__bases__, (ValueError,))

    def test_each_stands_right_under_strew_error(self):
        for name in REFUSALS:
            self.assertEqual(getattr(errors, name).__bases__, (errors.StrewError,), name)

    def test_none_stands_under_another(self):
        for one in REFUSALS:
            for other in REFUSALS:
                under = issubclass(getattr(errors, one), getattr(errors, other))
                self.assertEqual(under, one == other, (one, other))


if __name__ == "__main__":
    unittest.main()
