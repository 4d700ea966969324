"""Point 3 and the interface of forkplan.errors."""

import unittest

from forkplan import errors

NAMES = ["NoWorld", "NoName", "NoPlan", "NotSure", "NotPlain", "NoWeights", "TooMany", "NoText", "NoOrder"]


class Errors(unittest.TestCase):
    def test_any_refusal_is_a_value_error(self):
        self.assertEqual(errors.ForkError.__bases__, (ValueError,))

    def test_each_refusal_stands_straight_under_fork_error(self):
        for name in NAMES:
            with self.subTest(name=name):
                self.assertEqual(getattr(errors, name).__bases__, (errors.ForkError,))

    def test_none_stands_under_another(self):
        for name in NAMES:
            for other in NAMES:
                if name != other:
                    self.assertFalse(issubclass(getattr(errors, name), getattr(errors, other)), (name, other))

    def test_each_is_raised_and_taken_by_its_name_and_as_a_refusal(self):
        for name in NAMES:
            refusal = getattr(errors, name)
            for taken in (refusal, errors.ForkError, ValueError):
                with self.subTest(name=name, taken=taken), self.assertRaises(taken):
                    raise refusal("words of its own")


if __name__ == "__main__":
    unittest.main()
