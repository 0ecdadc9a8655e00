"""Points [3], [4] and [5]: the least of stretches, nearest lesser numbers, and all leasts together."""

import unittest

from valleytree.leasts import least, lesser_ahead, lesser_behind, stretches_from, sum_of_leasts
from valleytree.rows import Row

from tests.helpers import GREAT, check_behind_deeds, check_leasts, check_long_runs, sample_lists


class LeastTest(unittest.TestCase):
    def test_first_place_of_like_numbers(self):
        row = Row([3, 1, 2, 1, 1])
        self.assertEqual(least(row, 0, 5), (1, 1))
        self.assertEqual(least(row, 2, 5), (1, 3))
        self.assertEqual(least(row, 4, 5), (1, 4))
        self.assertEqual(least(row, 0, 1), (3, 0))

    def test_place_is_told_of_the_row_not_of_the_stretch(self):
        self.assertEqual(least(Row([-9, 5, 4, -9]), 1, 3), (4, 2))

    def test_below_nought_and_great(self):
        row = Row([GREAT, -GREAT, 0, -GREAT])
        self.assertEqual(least(row, 0, 4), (-GREAT, 1))
        self.assertEqual(least(row, 2, 4), (-GREAT, 3))


class NearestTest(unittest.TestCase):
    def test_ahead(self):
        self.assertEqual(lesser_ahead(Row([2, 1, 3, 3, 2, 4])), [None, None, 1, 1, 1, 4])

    def test_behind(self):
        self.assertEqual(lesser_behind(Row([2, 1, 3, 3, 2, 4])), [1, None, 4, 4, None, None])

    def test_like_numbers_are_not_lesser(self):
        row = Row([5, 5, 5])
        self.assertEqual(lesser_ahead(row), [None, None, None])
        self.assertEqual(lesser_behind(row), [None, None, None])

    def test_place_nought_is_told_as_a_place(self):
        self.assertEqual(lesser_ahead(Row([0, 1])), [None, 0])
        self.assertIsNone(lesser_ahead(Row([0, 1]))[0])


class AllLeastsTest(unittest.TestCase):
    def test_sum(self):
        self.assertEqual(sum_of_leasts(Row([3, 1, 2, 4])), 3 + 1 + 2 + 4 + 1 + 1 + 2 + 1 + 1 + 1)
        self.assertEqual(sum_of_leasts(Row([-1, 2])), -1 + 2 - 1)
        self.assertEqual(sum_of_leasts(Row([5] * 40)), 5 * 820)

    def test_how_many_stretches(self):
        row = Row([3, 1, 2, 4])
        self.assertEqual([stretches_from(row, number) for number in range(6)], [10, 10, 4, 2, 1, 0])

    def test_number_that_stands_in_the_row_and_one_that_does_not(self):
        row = Row([-4, 10, 10, -4])
        self.assertEqual(stretches_from(row, 10), 3)
        self.assertEqual(stretches_from(row, 7), 3)
        self.assertEqual(stretches_from(row, 11), 0)
        self.assertEqual(stretches_from(row, -4), 10)
        self.assertEqual(stretches_from(row, -3), 3)


class WithoutNumbersTest(unittest.TestCase):
    def test_row_without_numbers(self):
        row = Row([])
        self.assertEqual(lesser_ahead(row), [])
        self.assertEqual(lesser_behind(row), [])
        self.assertEqual(sum_of_leasts(row), 0)
        for number in (-GREAT, -1, 0, 1):
            self.assertEqual(stretches_from(row, number), 0)


class HeldAgainstLooksTest(unittest.TestCase):
    def test_many_rows(self):
        for numbers in sample_lists():
            with self.subTest(numbers=numbers):
                check_leasts(self, Row(numbers), numbers)

    def test_all_small_rows(self):
        rows = [[]]
        for numbers in rows:
            check_leasts(self, Row(numbers), numbers)
            if len(numbers) < 5:
                rows.extend([numbers + [number] for number in (-1, 0, 1)])

    def test_behind_each_deed(self):
        for lowest in (-6, 0):
            check_behind_deeds(self, check_leasts, lowest)

    def test_behind_each_deed_of_long_runs(self):
        check_long_runs(self, check_leasts, range(100, 106), 120)


if __name__ == "__main__":
    unittest.main()
