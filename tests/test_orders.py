"""Point [8]: the orders that have a tree, and their numbers."""

import math
import random
import unittest

from valleytree.orders import many_orders, order_at, order_number
from valleytree.trees import tree_of

from tests.helpers import (check_behind_deeds, check_long_runs, evenly_parted, look_many_orders, look_tree, one_way_trees,
                           orders_by_tree, sample_trees, some_numbers)


class AllOrdersTest(unittest.TestCase):
    def test_all_trees_of_up_to_six_places(self):
        for size in range(1, 7):
            for tree, orders in orders_by_tree(size).items():
                tree = list(tree)
                with self.subTest(tree=tree):
                    self.assertEqual(many_orders(tree), len(orders))
                    told = [order_at(tree, number) for number in range(len(orders))]
                    self.assertEqual(sorted(told), sorted(orders))
                    self.assertEqual([order_number(tree, order) for order in told], list(range(len(orders))))
                    self.assertEqual(sorted(order_number(tree, order) for order in orders), list(range(len(orders))))


class ManyOrdersTest(unittest.TestCase):
    def test_told_counts(self):
        self.assertEqual(many_orders([None]), 1)
        self.assertEqual(many_orders([1, None, 1]), 2)
        self.assertEqual(many_orders([1, 3, 1, None, 5, 3, 5]), 80)

    def test_trees_that_only_go_one_way_have_one_order(self):
        for size in (1, 2, 3, 17, 40):
            for tree in one_way_trees(size):
                self.assertEqual(many_orders(tree), 1)
                order = order_at(tree, 0)
                self.assertEqual(sorted(order), list(range(size)))
                self.assertEqual(look_tree(order), tree)
                self.assertEqual(order_number(tree, order), 0)

    def test_long_trees(self):
        for tree in sample_trees():
            self.assertEqual(many_orders(tree), look_many_orders(tree))

    def test_all_trees_together_have_all_orders(self):
        for size in range(1, 7):
            self.assertEqual(sum(many_orders(list(tree)) for tree in orders_by_tree(size)), math.factorial(size))


class ThereAndBackTest(unittest.TestCase):
    def check_some_numbers(self, chance, tree):
        numbers = some_numbers(chance, many_orders(tree))
        orders = [order_at(tree, number) for number in numbers]
        for order in orders:
            self.assertIs(type(order), list)
            self.assertEqual(sorted(order), list(range(len(tree))))
            self.assertEqual(look_tree(order), tree)
        self.assertEqual(len({tuple(order) for order in orders}), len(numbers))
        self.assertEqual([order_number(tree, order) for order in orders], numbers)

    def test_some_numbers_of_long_trees(self):
        chance = random.Random(51)
        for tree in sample_trees():
            self.check_some_numbers(chance, tree)

    def test_trees_that_part_evenly(self):
        chance = random.Random(52)
        for size in range(1, 41):
            self.check_some_numbers(chance, evenly_parted(0, size))

    def test_some_orders_of_many_sizes(self):
        chance = random.Random(53)
        for size in (1, 2, 7, 8, 20, 39, 40):
            for turn in range(20):
                order = chance.sample(range(size), size)
                tree = look_tree(order)
                number = order_number(tree, order)
                self.assertTrue(0 <= number < many_orders(tree))
                self.assertEqual(order_at(tree, number), order)

    def check_row(self, case, row, numbers):
        if numbers:
            self.check_some_numbers(random.Random(54), tree_of(row))
        self.assertEqual(row.numbers(), numbers)

    def test_behind_each_deed(self):
        check_behind_deeds(self, self.check_row, -6)
        check_long_runs(self, self.check_row, range(500, 503), 60)


if __name__ == "__main__":
    unittest.main()
