"""Point [1]: nothing handed in is changed or kept, and what is told is the asker's own."""

import unittest

from valleytree.leasts import least, lesser_ahead, lesser_behind, stretches_from, sum_of_leasts
from valleytree.rows import Row, joined

from tests.helpers import check_leasts


class HandedInTest(unittest.TestCase):
    def test_list_changed_afterwards_leaves_the_row(self):
        numbers = [3, 1, 2]
        row = Row(numbers)
        numbers[0] = 99
        numbers.append(-5)
        check_leasts(self, row, [3, 1, 2])
        numbers.clear()
        check_leasts(self, row, [3, 1, 2])

    def test_row_changed_afterwards_leaves_the_list(self):
        numbers = [3, 1, 2]
        row = Row(numbers)
        row.set_at(0, 9)
        row.put_in(3, 7)
        row.take_out(1)
        row.add_to(0, 2, 4)
        row.cut(1)
        self.assertEqual(numbers, [3, 1, 2])

    def test_two_rows_of_one_list_stand_beside_each_other(self):
        numbers = [3, 1, 2]
        one, other = Row(numbers), Row(numbers)
        one.set_at(0, 9)
        one.put_in(0, 8)
        one.take_out(3)
        one.add_to(0, 3, 10)
        check_leasts(self, one, [18, 19, 11])
        check_leasts(self, other, [3, 1, 2])

    def test_asking_and_joining_leave_the_rows(self):
        one, other = Row([4, 4, 0, 6]), Row([2, -1])
        least(one, 1, 3)
        lesser_ahead(one)
        lesser_behind(one)
        sum_of_leasts(one)
        stretches_from(one, 4)
        one.cut(2)
        joined(one, other)
        self.assertEqual(one.numbers(), [4, 4, 0, 6])
        self.assertEqual(other.numbers(), [2, -1])


class ToldTest(unittest.TestCase):
    def check_told_list(self, row, ask):
        first = ask()
        before = list(first)
        numbers = row.numbers()
        second = ask()
        self.assertIs(type(first), list)
        self.assertIsNot(first, second)
        first.append(77)
        first[0] = -77
        self.assertEqual(second, before)
        self.assertEqual(ask(), before)
        check_leasts(self, row, numbers)

    def test_told_lists_are_the_askers_own(self):
        row = Row([2, 5, 1, 1, 4])
        self.check_told_list(row, row.numbers)
        self.check_told_list(row, lambda: lesser_ahead(row))
        self.check_told_list(row, lambda: lesser_behind(row))

    def test_told_lists_of_a_row_without_numbers_are_the_askers_own(self):
        row = Row([])
        for ask in (row.numbers, lambda: lesser_ahead(row), lambda: lesser_behind(row)):
            ask().append(5)
            self.assertEqual(ask(), [])

    def test_list_told_ahead_of_a_deed_stays(self):
        row = Row([2, 5])
        told = row.numbers()
        row.set_at(0, 9)
        row.put_in(1, 8)
        row.add_to(0, 3, 1)
        row.take_out(2)
        self.assertEqual(told, [2, 5])

    def test_lists_ahead_and_behind_are_not_one(self):
        row = Row([1, 1])
        ahead, behind = lesser_ahead(row), lesser_behind(row)
        ahead[0] = 5
        self.assertEqual(behind, [None, None])


if __name__ == "__main__":
    unittest.main()
