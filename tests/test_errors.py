import unittest

from drawndown import errors

NAMES = [
    "NoLot", "NoTable", "NoTuple", "NotAlike", "NotFair", "NoText", "NoRule", "Ended", "NoBottom", "NoRoot",
    "NoCube", "NoSize", "NoNumber", "TooMany", "NoStep", "NoDeed", "NoRow",
]


class Errors(unittest.TestCase):
    def test_the_class_above_all_stands_under_value_error(self):
        self.assertEqual(errors.DrawError.__bases__, (ValueError,))

    def test_each_refusal_stands_straight_under_it(self):
        for name in NAMES:
            with self.subTest(name=name):
                self.assertEqual(getattr(errors, name).__bases__, (errors.DrawError,))

    def test_each_refusal_is_a_class_of_its_own_under_its_own_name(self):
        classes = [getattr(errors, name) for name in NAMES]
        self.assertEqual([each.__name__ for each in classes], NAMES)
        self.assertEqual(len(set(classes)), 17)

    def test_each_can_be_raised_and_taken_by_the_classes_above_it(self):
        for name in NAMES:
            for above in (errors.DrawError, ValueError):
                with self.subTest(name=name, above=above), self.assertRaises(above):
                    raise getattr(errors, name)("words")


if __name__ == "__main__":
    unittest.main()
