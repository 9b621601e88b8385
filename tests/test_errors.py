"""Points 3 and the interface of spillmirror/errors.py."""

import unittest

from spillmirror import errors

PLAIN = ["NoDays", "NoCap", "NoStart", "NoMany", "NoLot", "NotBest", "NoNumber", "NoMirror", "NoMost", "NoFive",
         "NoCaps", "NoBounds", "NoLooks", "NoMoment", "NoContent", "NoCore", "NoText"]


class Refusals(unittest.TestCase):
    def test_tank_error_is_a_value_error(self):
        self.assertEqual(errors.TankError.__bases__, (ValueError,))

    def test_each_stands_straight_under_tank_error(self):
        for name in PLAIN + ["TooMany"]:
            with self.subTest(name):
                self.assertEqual(getattr(errors, name).__bases__, (errors.TankError,))

    def test_no_class_is_another_one(self):
        classes = [getattr(errors, name) for name in PLAIN + ["TooMany"]]
        for at, one in enumerate(classes):
            for other in classes[:at]:
                self.assertFalse(issubclass(one, other) or issubclass(other, one))

    def test_plain_ones_are_made_with_nothing(self):
        for name in PLAIN:
            with self.subTest(name), self.assertRaises(errors.TankError):
                raise getattr(errors, name)()

    def test_too_many_has_its_field(self):
        self.assertEqual(errors.TooMany(1000).many, 1000)
        self.assertEqual(errors.TooMany(many=7).many, 7)
        with self.assertRaises(TypeError):
            errors.TooMany()


if __name__ == "__main__":
    unittest.main()
