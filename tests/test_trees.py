"""Points [6] and [7]: the tree of a row, which lists are trees, and the trees' numbers."""

import itertools
import math
import random
import unittest

from valleytree.rows import Row
from valleytree.trees import is_tree, many_trees, tree_at, tree_number, tree_of

from tests.helpers import (GREAT, check_behind_deeds, check_long_runs, check_tree_of, evenly_parted, look_tree,
                           orders_by_tree, sample_lists, sample_trees, some_numbers, trees_in_order, which_is_ahead)


class TreeOfTest(unittest.TestCase):
    def test_told_trees(self):
        self.assertEqual(tree_of(Row([])), [])
        self.assertEqual(tree_of(Row([-4])), [None])
        self.assertEqual(tree_of(Row([3, 1, 2])), [1, None, 1])
        self.assertEqual(tree_of(Row([5, 2, 9, 7, 1, 4])), [1, 4, 3, 1, None, 4])

    def test_first_of_like_numbers_is_the_head(self):
        self.assertEqual(tree_of(Row([2, 1, 1, 2, 1])), [1, None, 1, 4, 2])

    def test_below_nought_and_great(self):
        self.assertEqual(tree_of(Row([GREAT, -GREAT, 0, -GREAT, GREAT - 1])), [1, None, 3, 1, 3])

    def test_rows_that_rise_fall_and_are_all_alike(self):
        for size in (1, 2, 5, 40):
            down_to_the_end = [None] + list(range(size - 1))
            self.assertEqual(tree_of(Row(list(range(-3, size - 3)))), down_to_the_end)
            self.assertEqual(tree_of(Row([7] * size)), down_to_the_end)
            self.assertEqual(tree_of(Row(list(range(size, 0, -1)))), list(range(1, size)) + [None])

    def test_many_rows(self):
        for numbers in sample_lists():
            with self.subTest(numbers=numbers):
                check_tree_of(self, Row(numbers), numbers)

    def test_rows_of_forty_with_many_alike(self):
        chance = random.Random(31)
        for turn in range(60):
            numbers = [chance.choice((-GREAT, -1, 0, 0, 1, GREAT)) for place in range(40)]
            check_tree_of(self, Row(numbers), numbers)

    def test_all_small_rows(self):
        for size in range(6):
            for numbers in itertools.product((-1, 0, 1), repeat=size):
                check_tree_of(self, Row(list(numbers)), list(numbers))

    def test_number_added_to_all_and_each_taken_three_times(self):
        for numbers in sample_lists():
            tree = tree_of(Row(numbers))
            self.assertEqual(tree_of(Row([3 * number for number in numbers])), tree)
            for more in (-GREAT, -1, 5, GREAT):
                row = Row(numbers)
                if numbers:
                    row.add_to(0, len(numbers), more)
                self.assertEqual(tree_of(row), tree)

    def test_behind_each_deed(self):
        for lowest in (-6, 0):
            check_behind_deeds(self, check_tree_of, lowest)

    def test_behind_each_deed_of_long_runs(self):
        check_long_runs(self, check_tree_of, range(200, 206), 120)


class IsTreeTest(unittest.TestCase):
    def test_every_list_of_up_to_five_entries(self):
        for size in range(1, 6):
            trees = orders_by_tree(size)
            for some in itertools.product([None] + list(range(-1, size + 1)), repeat=size):
                self.assertIs(is_tree(list(some)), some in trees, some)

    def test_rows_with_like_numbers_have_the_trees_of_orders(self):
        for size in range(1, 6):
            rows = itertools.product(range(size), repeat=size)
            self.assertEqual({tuple(tree_of(Row(list(row)))) for row in rows}, set(orders_by_tree(size)))

    def test_list_without_entries(self):
        self.assertIs(is_tree([]), False)

    def test_long_trees(self):
        for tree in sample_trees():
            self.assertIs(is_tree(tree), True)
            self.assertEqual(look_tree_back(tree), tree)

    def test_one_entry_turned(self):
        for tree in sample_trees():
            size = len(tree)
            for place in range(size):
                for entry in [None, -size, -size - 1, size + 1, GREAT, -GREAT] + list(range(-1, size + 1)):
                    turned = tree[:place] + [entry] + tree[place + 1:]
                    self.assertIs(is_tree(turned), turned == tree)

    def test_entries_counted_from_the_end_are_none(self):
        for tree in sample_trees():
            size = len(tree)
            if size > 1:
                self.assertIs(is_tree([over if over is None else over - size for over in tree]), False)

    def test_forty_are_fine_and_more_are_not(self):
        for size, fine in ((39, True), (40, True), (41, False), (42, False), (60, False), (600, False)):
            self.assertIs(is_tree([None] + list(range(size - 1))), fine)
            self.assertIs(is_tree(list(range(1, size)) + [None]), fine)
            self.assertIs(is_tree(evenly_parted(0, size)), fine)

    def test_rings_and_several_tops(self):
        for some in ([0], [1, 0], [1, 2, 0], [None, None], [None, 2, 1], [1, 0, None], [None, 0, 0], [1, None, 1, 1],
                     [2, 2, None], [2, None, 1], [1] * 40, [None] * 40, list(range(40))):
            self.assertIs(is_tree(some), False)


def look_tree_back(tree):
    """The tree of the row that holds for each place how many stand over it."""
    depths = []
    for place in range(len(tree)):
        depth = 0
        while tree[place] is not None:
            place = tree[place]
            depth += 1
        depths.append(depth)
    return look_tree(depths)


class ManyTreesTest(unittest.TestCase):
    def test_against_sums_of_products(self):
        sums = [1]
        for size in range(1, 41):
            sums.append(sum(one * other for one, other in zip(sums, reversed(sums))))
            self.assertEqual(many_trees(size), sums[size])
            self.assertEqual(many_trees(size), math.comb(2 * size, size) // (size + 1))

    def test_against_all_orders(self):
        self.assertEqual([many_trees(size) for size in range(1, 8)], [1, 2, 5, 14, 42, 132, 429])
        for size in range(1, 7):
            self.assertEqual(many_trees(size), len(orders_by_tree(size)))


class TreeNumberTest(unittest.TestCase):
    def test_told_order_of_three_places(self):
        trees = [[None, 0, 1], [None, 2, 0], [1, None, 1], [2, 0, None], [1, 2, None]]
        self.assertEqual([tree_at(3, number) for number in range(5)], trees)
        self.assertEqual([tree_number(tree) for tree in trees], [0, 1, 2, 3, 4])

    def test_part_ahead_weighs_more_than_part_behind(self):
        one, other = [2, 0, None, 2, 3], [1, 2, None, 4, 2]
        self.assertLess(tree_number(one), tree_number(other))
        one, other = [2, 0, None, 4, 2], [1, 2, None, 2, 3]
        self.assertLess(tree_number(one), tree_number(other))

    def test_all_numbers_of_up_to_six_places(self):
        for size in range(1, 7):
            trees = trees_in_order(size)
            self.assertEqual([tree_at(size, number) for number in range(len(trees))], trees)
            self.assertEqual([tree_number(tree) for tree in trees], list(range(len(trees))))

    def test_least_and_greatest_of_forty_places(self):
        self.assertEqual(tree_at(40, 0), [None] + list(range(39)))
        self.assertEqual(tree_at(40, many_trees(40) - 1), list(range(1, 40)) + [None])
        self.assertEqual(tree_number([None] + list(range(39))), 0)
        self.assertEqual(tree_number(list(range(1, 40)) + [None]), many_trees(40) - 1)

    def test_some_numbers_of_many_places(self):
        chance = random.Random(41)
        for size in (7, 8, 20, 39, 40):
            numbers = some_numbers(chance, many_trees(size))
            trees = [tree_at(size, number) for number in numbers]
            self.assertEqual([tree_number(tree) for tree in trees], numbers)
            for tree, later in zip(trees, trees[1:]):
                self.assertIs(type(tree), list)
                self.assertLess(which_is_ahead(tree, later), 0)

    def test_some_trees_there_and_back(self):
        for tree in sample_trees():
            self.assertEqual(tree_at(len(tree), tree_number(tree)), tree)


if __name__ == "__main__":
    unittest.main()
