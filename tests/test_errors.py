"""The refusals: each a RodError and a ValueError, none under another one."""

import unittest

from hingedraw import errors

NAMES = (
    "NoQuotient", "NoField", "NoRoot", "NoMeet", "Stuck", "NoMachine", "NoCurve", "NoName", "BadNote",
)


class ErrorsTest(unittest.TestCase):

    def test_rod_error_stands_straight_under_value_error(self):
        self.assertEqual(errors.RodError.__bases__, (ValueError,))

    def test_each_stands_straight_under_rod_error(self):
        for name in NAMES:
            with self.subTest(name):
                self.assertEqual(getattr(errors, name).__bases__, (errors.RodError,))

    def test_no_one_stands_under_another(self):
        for one in NAMES:
            for other in NAMES:
                if one != other:
                    self.assertFalse(issubclass(getattr(errors, one), getattr(errors, other)), (one, other))

    def test_each_is_raised_and_taken(self):
        for name in NAMES:
            kind = getattr(errors, name)
            with self.subTest(name):
                for taken in (kind, errors.RodError, ValueError):
                    with self.assertRaises(taken):
                        raise kind(3)

    def test_stuck_has_its_step(self):
        for step in (0, 3, 6):
            self.assertEqual(errors.Stuck(step).step, step)
        self.assertEqual(errors.Stuck(step=4).step, 4)

    def test_stuck_keeps_its_step_when_raised(self):
        with self.assertRaises(errors.Stuck) as caught:
            raise errors.Stuck(2)
        self.assertEqual(caught.exception.step, 2)


if __name__ == "__main__":
    unittest.main()
