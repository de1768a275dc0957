"""[0.3]: the refusals are classes straight beneath GlassError, none beneath another."""

import unittest

from roundglass import errors

NAMES = ("NoRatio", "NoWhole", "TooMany", "NoText", "NoRow", "NoPart", "NoNumber", "NoPast")


class Errors(unittest.TestCase):
    def test_glass_error_is_straight_beneath_value_error(self):
        self.assertEqual(errors.GlassError.__bases__, (ValueError,))

    def test_each_is_straight_beneath_glass_error(self):
        for name in NAMES:
            self.assertEqual(getattr(errors, name).__bases__, (errors.GlassError,), name)

    def test_none_is_beneath_another(self):
        for one in NAMES:
            for other in NAMES:
                told = issubclass(getattr(errors, one), getattr(errors, other))
                self.assertEqual(told, one == other, (one, other))

    def test_each_is_made_with_a_text(self):
        for name in NAMES + ("GlassError",):
            made = getattr(errors, name)("a text")
            self.assertEqual(str(made), "a text")
            self.assertIsInstance(made, ValueError)


if __name__ == "__main__":
    unittest.main()
