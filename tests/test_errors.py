"""The refusals: point 2's last sentences and the interface's first entry."""

import unittest

from farcords import errors

NAMES = ["TooMany", "NoDeed", "NoRow", "NoCord", "NoTurn", "NoText", "NoSheet", "NoName"]


class ErrorsTest(unittest.TestCase):
    def test_the_base_stands_straight_under_value_error(self):
        self.assertEqual(errors.CordError.__bases__, (ValueError,))

    def test_each_stands_straight_under_the_base(self):
        for name in NAMES:
            with self.subTest(name):
                self.assertEqual(getattr(errors, name).__bases__, (errors.CordError,))

    def test_none_stands_under_another_one(self):
        for one in NAMES:
            for other in NAMES:
                if one != other:
                    with self.subTest(one=one, other=other):
                        self.assertFalse(issubclass(getattr(errors, one), getattr(errors, other)))

    def test_each_is_raised_with_words_and_without(self):
        for name in NAMES + ["CordError"]:
            kind = getattr(errors, name)
            with self.subTest(name):
                self.assertEqual(kind.__name__, name)
                with self.assertRaises(errors.CordError):
                    raise kind("why")
                with self.assertRaises(ValueError):
                    raise kind()


if __name__ == "__main__":
    unittest.main()
