import unittest

from valleytree import errors

NAMES = ("NoRow", "NoPlace", "NoStretch", "NoTree", "NoOrder", "NoNumber", "NoSky")


class ErrorsTest(unittest.TestCase):
    def test_row_error_stands_under_value_error(self):
        self.assertEqual(errors.RowError.__bases__, (ValueError,))

    def test_seven_classes_stand_straight_under_row_error(self):
        for name in NAMES:
            with self.subTest(name=name):
                self.assertEqual(getattr(errors, name).__bases__, (errors.RowError,))

    def test_each_refusal_has_a_class_of_its_own(self):
        self.assertEqual(len({getattr(errors, name) for name in NAMES}), 7)

    def test_refusals_are_taken_by_both_names_above(self):
        for name in NAMES:
            for above in (errors.RowError, ValueError):
                with self.subTest(name=name, above=above):
                    with self.assertRaises(above):
                        raise getattr(errors, name)("words")


if __name__ == "__main__":
    unittest.main()
