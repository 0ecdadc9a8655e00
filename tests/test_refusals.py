"""Point [11]: each refusal by each call that refuses so, their order, and that a refusal turns nothing."""

import unittest

from valleytree.errors import NoNumber, NoOrder, NoPlace, NoRow, NoSky, NoStretch, NoTree, RowError
from valleytree.leasts import least
from valleytree.orders import many_orders, order_at, order_number
from valleytree.rows import Row, joined
from valleytree.skylines import water, widest
from valleytree.trees import is_tree, many_trees, tree_at, tree_number

from tests.helpers import GREAT, check_all, evenly_parted, look_tree, orders_by_tree, sample_trees

SAMPLES = ([], [5], [3, 1, 2], list(range(39)), [-4] * 40)


def bad_places(size):
    return (-1, -2, -size, -size - 1, size, size + 1, size + 40, GREAT, -GREAT)


def no_trees():
    lists = [[], [0], [-1], [1], [GREAT], [None, None], [1, 0], [None, 2], [None, -1], [None, 1], [None, -2],
             [1, None, 0], [None, 0, 0], [2, None, 1], [1, 2, 0], [None] * 40, [0] * 40, list(range(40)),
             [None] + list(range(40)), list(range(1, 41)) + [None], evenly_parted(0, 41), evenly_parted(0, 60), [0] * 60]
    for tree in sample_trees():
        size = len(tree)
        lists.append(tree[:-1] + [GREAT])
        lists.append([tree[0] if tree[0] is None else tree[0] - size] + tree[1:] + [None])
        lists.append([over if over is not None else size for over in tree])
        lists.append([over if over is not None else tree.index(None) for over in tree])
    return lists


def no_orders(size):
    """Lists that are no order of so many numbers."""
    order = list(range(size))
    lists = [[], order + [size], order + [0], order[1:], order[:-1], [number + 1 for number in order]]
    lists += [[number - 1 for number in order], order[:-1] + [-1], order[:-1] + [GREAT], order[:-1] + [size]]
    lists += [list(range(41)), list(range(60)), [0] * 41, [-GREAT] * size, [None] * size]
    return lists + ([order[:-1] + [0], [1] + order[1:], [0] * size, order[:-1] + [-size]] if size > 1 else [])


def no_numbers(many):
    return (-1, -2, -many, -GREAT, many, many + 1, 2 * many, many + GREAT)


def no_stretches(size):
    pairs = [(-1, size), (-1, 0), (-1, 1), (-2, -1), (-GREAT, 1), (-size, size), (0, size + 1), (0, GREAT)]
    pairs += [(size, size + 1), (size, size), (size + 1, size + 1), (size + 1, size + 2), (0, 0), (0, -1)]
    pairs += [(size, 0), (1, 0), (2, 1), (2, 2), (-1, -1), (-1, size + 1), (size + 1, 0)]
    return [(first, behind) for first, behind in pairs if not 0 <= first < behind <= size]


class RefusalCase(unittest.TestCase):
    def check_refused(self, kind, row, call):
        """The call refuses with the very class told, and the row stays, for all that can be asked."""
        before = row.numbers()
        with self.assertRaises(RowError) as caught:
            call()
        self.assertIs(type(caught.exception), kind)
        self.assertIsInstance(caught.exception, ValueError)
        self.assertEqual(row.numbers(), before)

    def check_list_refused(self, kind, call, handed, more):
        """The call refuses with the very class told, and what is handed in stays."""
        tree, other = list(handed), list(more) if isinstance(more, list) else more
        with self.assertRaises(RowError) as caught:
            call(handed, more)
        self.assertIs(type(caught.exception), kind)
        self.assertIsInstance(caught.exception, ValueError)
        self.assertEqual((handed, more), (tree, other))


class NoRowTest(RefusalCase):
    def test_making(self):
        for size in (41, 42, 60, 61, 200):
            numbers = list(range(size))
            with self.assertRaises(RowError) as caught:
                Row(numbers)
            self.assertIs(type(caught.exception), NoRow)
            self.assertEqual(numbers, list(range(size)))

    def test_put_in(self):
        row = Row(list(range(40)))
        for place in (0, 17, 39, 40):
            self.check_refused(NoRow, row, lambda: row.put_in(place, 5))
        row.take_out(0)
        row.put_in(39, 5)
        self.check_refused(NoRow, row, lambda: row.put_in(0, 5))

    def test_joined(self):
        for left, right in ((40, 1), (1, 40), (20, 21), (40, 40)):
            one, other = Row([1] * left), Row([2] * right)
            self.check_refused(NoRow, one, lambda: joined(one, other))
            self.assertEqual(other.numbers(), [2] * right)
        row = Row([3] * 21)
        self.check_refused(NoRow, row, lambda: joined(row, row))


class NoPlaceTest(RefusalCase):
    def test_set_at_and_take_out(self):
        for numbers in SAMPLES:
            row = Row(numbers)
            for place in bad_places(len(numbers)):
                if 0 <= place < len(numbers):
                    continue
                self.check_refused(NoPlace, row, lambda: row.set_at(place, 8))
                self.check_refused(NoPlace, row, lambda: row.take_out(place))

    def test_put_in_and_cut(self):
        for numbers in SAMPLES:
            row = Row(numbers)
            for place in bad_places(len(numbers)):
                if 0 <= place <= len(numbers):
                    continue
                self.check_refused(NoPlace, row, lambda: row.cut(place))
                if len(numbers) < 40:
                    self.check_refused(NoPlace, row, lambda: row.put_in(place, 8))

    def test_how_many_there_are_is_fine_for_putting_in_and_cutting(self):
        row = Row([1, 2])
        self.assertEqual([part.numbers() for part in row.cut(2)], [[1, 2], []])
        row.put_in(2, 3)
        self.assertEqual(row.numbers(), [1, 2, 3])


class NoStretchTest(RefusalCase):
    def test_add_to_and_least(self):
        for numbers in SAMPLES:
            row = Row(numbers)
            for first, behind in no_stretches(len(numbers)):
                with self.subTest(size=len(numbers), first=first, behind=behind):
                    self.check_refused(NoStretch, row, lambda: row.add_to(first, behind, 8))
                    self.check_refused(NoStretch, row, lambda: least(row, first, behind))

    def test_whole_row_and_last_number_are_fine(self):
        row = Row([4, 3])
        self.assertEqual(least(row, 0, 2), (3, 1))
        self.assertEqual(least(row, 1, 2), (3, 1))
        row.add_to(1, 2, 5)
        row.add_to(0, 2, 1)
        self.assertEqual(row.numbers(), [5, 9])


class NoTreeTest(RefusalCase):
    def test_each_call_of_a_tree(self):
        for some in no_trees():
            with self.subTest(some=some):
                self.assertIs(is_tree(some), False)
                self.check_list_refused(NoTree, lambda tree, more: tree_number(tree), some, None)
                self.check_list_refused(NoTree, lambda tree, more: many_orders(tree), some, None)
                self.check_list_refused(NoTree, order_at, some, 0)
                self.check_list_refused(NoTree, order_number, some, list(range(len(some))))


class NoOrderTest(RefusalCase):
    def test_lists_that_are_no_order(self):
        for tree in sample_trees():
            for some in no_orders(len(tree)):
                with self.subTest(tree=tree, some=some):
                    self.check_list_refused(NoOrder, order_number, tree, some)

    def test_orders_of_another_length(self):
        for tree in sample_trees():
            for other in sample_trees():
                if len(other) != len(tree):
                    self.check_list_refused(NoOrder, order_number, tree, order_at(other, 0))

    def test_orders_that_have_another_tree(self):
        for size in range(1, 5):
            for tree in orders_by_tree(size):
                for other, orders in orders_by_tree(size).items():
                    for order in orders:
                        if other != tree:
                            self.check_list_refused(NoOrder, order_number, list(tree), order)

    def test_long_orders_that_have_another_tree(self):
        for tree in sample_trees():
            order = order_at(tree, many_orders(tree) - 1)
            for other in (list(reversed(order)), [len(tree) - 1 - number for number in order]):
                if look_tree(other) != tree:
                    self.check_list_refused(NoOrder, order_number, tree, other)


class NoNumberTest(RefusalCase):
    def check_number_refused(self, call):
        with self.assertRaises(RowError) as caught:
            call()
        self.assertIs(type(caught.exception), NoNumber)
        self.assertIsInstance(caught.exception, ValueError)

    def test_sizes(self):
        for size in (0, -1, -40, 41, 42, 100, GREAT, -GREAT):
            self.check_number_refused(lambda: many_trees(size))
            for number in (-1, 0, 1, GREAT):
                self.check_number_refused(lambda: tree_at(size, number))

    def test_sizes_of_one_and_forty_are_fine(self):
        self.assertEqual((many_trees(1), tree_at(1, 0)), (1, [None]))
        self.assertEqual(len(tree_at(40, many_trees(40) - 1)), 40)

    def test_numbers_of_trees(self):
        for size in range(1, 41):
            for number in no_numbers(many_trees(size)):
                self.check_number_refused(lambda: tree_at(size, number))

    def test_numbers_of_orders(self):
        for tree in sample_trees():
            for number in no_numbers(many_orders(tree)):
                self.check_list_refused(NoNumber, order_at, tree, number)


class NoSkyTest(RefusalCase):
    def test_number_below_nought(self):
        for numbers in ([-1], [-GREAT], [0, -1], [-1, 0], [5, -3, 5], [-4] * 40, [1] * 39 + [-1], [-1] + [GREAT] * 39):
            row = Row(numbers)
            self.check_refused(NoSky, row, lambda: widest(row))
            self.check_refused(NoSky, row, lambda: water(row))

    def test_row_without_numbers_has_no_widest_block_but_water(self):
        row = Row([])
        self.check_refused(NoSky, row, lambda: widest(row))
        self.assertEqual(water(row), [])

    def test_row_that_comes_to_be_a_skyline_and_ceases_to_be(self):
        row = Row([2, -1, 2])
        self.check_refused(NoSky, row, lambda: widest(row))
        row.add_to(1, 2, 1)
        self.assertEqual((widest(row), water(row)), ((2, 0, 1), [0, 2, 0]))
        row.set_at(2, -1)
        self.check_refused(NoSky, row, lambda: water(row))
        row.take_out(2)
        self.assertEqual((widest(row), water(row)), ((2, 0, 1), [0, 0]))


class OrderTest(RefusalCase):
    def test_no_tree_goes_ahead_of_a_number_that_none_has(self):
        for some in no_trees():
            for number in (-1, -GREAT, 1, GREAT):
                self.check_list_refused(NoTree, order_at, some, number)

    def test_no_tree_goes_ahead_of_no_order(self):
        for some in no_trees():
            for order in no_orders(len(some)):
                self.check_list_refused(NoTree, order_number, some, order)

    def test_full_row_goes_ahead_of_a_place_that_is_none(self):
        row = Row([0] * 40)
        for place in (-1, 41, GREAT, -GREAT):
            self.check_refused(NoRow, row, lambda: row.put_in(place, 5))


class TurnsNothingTest(RefusalCase):
    def test_all_goes_on_behind_refusals(self):
        row = Row([2, 9, 2])
        self.check_refused(NoPlace, row, lambda: row.set_at(3, 0))
        self.check_refused(NoPlace, row, lambda: row.take_out(-1))
        self.check_refused(NoPlace, row, lambda: row.put_in(4, 0))
        self.check_refused(NoStretch, row, lambda: row.add_to(0, 4, 1))
        self.check_refused(NoPlace, row, lambda: row.cut(4))
        self.check_refused(NoRow, row, lambda: joined(row, Row([0] * 38)))
        check_all(self, row, [2, 9, 2])
        row.put_in(3, -1)
        self.check_refused(NoSky, row, lambda: widest(row))
        self.check_refused(NoSky, row, lambda: water(row))
        check_all(self, row, [2, 9, 2, -1])

    def test_trees_and_orders_go_on_behind_refusals(self):
        tree = [1, None, 3, 1]
        self.check_list_refused(NoNumber, order_at, tree, 3)
        self.check_list_refused(NoOrder, order_number, tree, [0, 1, 2, 3])
        self.check_list_refused(NoTree, order_at, [1, 0, 3, 1], 0)
        with self.assertRaises(NoNumber):
            tree_at(4, 14)
        self.assertEqual((tree_number(tree), tree_at(4, 6), many_orders(tree)), (6, tree, 3))
        self.assertEqual([order_number(tree, order_at(tree, number)) for number in range(3)], [0, 1, 2])


if __name__ == "__main__":
    unittest.main()
