"""Point [1]: nothing handed in is changed or kept, and what is told is the asker's own."""

import unittest

from valleytree.leasts import least, lesser_ahead, lesser_behind, stretches_from, sum_of_leasts
from valleytree.orders import many_orders, order_at, order_number
from valleytree.rows import Row, joined
from valleytree.skylines import water, widest
from valleytree.trees import is_tree, many_trees, tree_at, tree_number, tree_of

from tests.helpers import check_all, evenly_parted, look_tree, sample_trees


class HandedInTest(unittest.TestCase):
    def test_list_changed_afterwards_leaves_the_row(self):
        numbers = [3, 1, 2]
        row = Row(numbers)
        numbers[0] = 99
        numbers.append(-5)
        check_all(self, row, [3, 1, 2])
        numbers.clear()
        check_all(self, row, [3, 1, 2])

    def test_row_changed_afterwards_leaves_the_list(self):
        numbers = [3, 1, 2]
        row = Row(numbers)
        row.set_at(0, 9)
        row.put_in(3, 7)
        row.take_out(1)
        row.add_to(0, 2, 4)
        row.cut(1)
        self.assertEqual(numbers, [3, 1, 2])

    def test_two_rows_of_one_list_stand_beside_each_other(self):
        numbers = [3, 1, 2]
        one, other = Row(numbers), Row(numbers)
        one.set_at(0, 9)
        one.put_in(0, 8)
        one.take_out(3)
        one.add_to(0, 3, 10)
        check_all(self, one, [18, 19, 11])
        check_all(self, other, [3, 1, 2])

    def test_asking_and_joining_leave_the_rows(self):
        one, other = Row([4, 4, 0, 6]), Row([2, -1])
        least(one, 1, 3)
        lesser_ahead(one)
        lesser_behind(one)
        sum_of_leasts(one)
        stretches_from(one, 4)
        tree_of(one)
        widest(one)
        water(one)
        one.cut(2)
        joined(one, other)
        self.assertEqual(one.numbers(), [4, 4, 0, 6])
        self.assertEqual(other.numbers(), [2, -1])

    def test_lists_handed_in_stay(self):
        for tree in sample_trees():
            handed = list(tree)
            order = order_at(handed, many_orders(handed) // 2)
            handed_order = list(order)
            is_tree(handed)
            tree_number(handed)
            order_number(handed, handed_order)
            self.assertEqual(handed, tree)
            self.assertEqual(handed_order, order)

    def test_lists_that_are_no_tree_stay(self):
        for some in ([], [0], [None, None, 1], [-1, None], [1] * 41):
            handed = list(some)
            is_tree(handed)
            self.assertEqual(handed, some)

    def test_lists_changed_afterwards_turn_nothing(self):
        tree, other = [1, None, 3, 1], [None, 0, 1, 2]
        handed = list(tree)
        order = order_at(handed, 2)
        handed_order = list(order)
        number = order_number(handed, handed_order)
        kept = list(order)
        for place in range(4):
            handed[place] = other[place]
            handed_order[place] = place
        self.assertEqual(order, kept)
        self.assertEqual((many_orders(handed), order_at(handed, 0), tree_number(handed)), (1, [0, 1, 2, 3], 0))
        self.assertEqual(order_number(handed, handed_order), 0)
        self.assertEqual((order_number(tree, order), order_at(tree, 2), many_orders(tree)), (number, kept, 3))
        handed.clear()
        self.assertEqual((is_tree(handed), is_tree(tree)), (False, True))

    def test_trees_told_ahead_of_a_deed_stay(self):
        row = Row([3, 1, 2])
        tree, depths = tree_of(row), water(row)
        row.set_at(0, 0)
        row.put_in(1, 9)
        row.take_out(3)
        self.assertEqual((tree, depths), ([1, None, 1], [0, 1, 0]))
        check_all(self, row, [0, 9, 1])


class ToldTest(unittest.TestCase):
    def check_told_list(self, row, ask):
        first = ask()
        before = list(first)
        numbers = row.numbers()
        second = ask()
        self.assertIs(type(first), list)
        self.assertIsNot(first, second)
        first.append(77)
        first[0] = -77
        self.assertEqual(second, before)
        self.assertEqual(ask(), before)
        check_all(self, row, numbers)

    def test_told_lists_are_the_askers_own(self):
        row = Row([2, 5, 1, 1, 4])
        self.check_told_list(row, row.numbers)
        self.check_told_list(row, lambda: lesser_ahead(row))
        self.check_told_list(row, lambda: lesser_behind(row))
        self.check_told_list(row, lambda: tree_of(row))
        self.check_told_list(row, lambda: water(row))

    def test_told_trees_and_orders_are_the_askers_own(self):
        row = Row([2, 5, 1, 1, 4])
        tree = tree_of(row)
        self.check_told_list(row, lambda: tree_at(5, 20))
        self.check_told_list(row, lambda: tree_at(1, 0))
        self.check_told_list(row, lambda: order_at(tree, 1))
        self.check_told_list(row, lambda: order_at([None], 0))
        self.assertEqual(tree, look_tree([2, 5, 1, 1, 4]))

    def test_told_tree_changed_leaves_all_that_is_told_next(self):
        even = evenly_parted(0, 40)
        number, many = tree_number(even), many_orders(even)
        told = tree_at(40, number)
        order = order_at(told, many - 1)
        kept = list(order)
        for place in range(40):
            told[place] = order[place] = 0
        self.assertEqual((tree_at(40, number), tree_number(even)), (even, number))
        self.assertEqual((order_at(even, many - 1), order_number(even, kept)), (kept, many - 1))
        self.assertEqual((many_orders(even), many_trees(40)), (many, 2622127042276492108820))

    def test_told_lists_of_a_row_without_numbers_are_the_askers_own(self):
        row = Row([])
        asks = (row.numbers, lambda: lesser_ahead(row), lambda: lesser_behind(row), lambda: tree_of(row),
                lambda: water(row))
        for ask in asks:
            ask().append(5)
            self.assertEqual(ask(), [])

    def test_list_told_ahead_of_a_deed_stays(self):
        row = Row([2, 5])
        told = row.numbers()
        row.set_at(0, 9)
        row.put_in(1, 8)
        row.add_to(0, 3, 1)
        row.take_out(2)
        self.assertEqual(told, [2, 5])

    def test_lists_ahead_and_behind_are_not_one(self):
        row = Row([1, 1])
        ahead, behind = lesser_ahead(row), lesser_behind(row)
        ahead[0] = 5
        self.assertEqual(behind, [None, None])


if __name__ == "__main__":
    unittest.main()
