"""Points [9] and [10]: the widest block, and the water over the towers."""

import itertools
import random
import unittest

from valleytree.rows import Row
from valleytree.skylines import water, widest

from tests.helpers import GREAT, check_behind_deeds, check_long_runs, check_sky


def sample_skies():
    chance = random.Random(61)
    skies = [
        [], [0], [7], [GREAT], [0, 0, 0], [0] * 40, [5] * 40, list(range(40)), list(range(40, 0, -1)),
        [2, 1, 5, 6, 2, 3], [3, 0, 3], [GREAT, 0, GREAT - 1, GREAT], [0, GREAT, 0], [1, 0] * 20, [9, 0, 0, 0, 0, 9],
    ]
    for size in (2, 3, 5, 8, 13, 21, 39, 40):
        for bound in (1, 3, 50, GREAT):
            skies.append([chance.randint(0, bound) for place in range(size)])
    return skies


class WidestTest(unittest.TestCase):
    def test_told_blocks(self):
        self.assertEqual(widest(Row([2, 1, 5, 6, 2, 3])), (10, 2, 4))
        self.assertEqual(widest(Row([1, 1, 1, 1])), (4, 0, 4))
        self.assertEqual(widest(Row([4])), (4, 0, 1))
        self.assertEqual(widest(Row([GREAT, GREAT, 0])), (2 * GREAT, 0, 2))

    def test_of_several_the_first_place_that_is_least(self):
        self.assertEqual(widest(Row([0, 4, 0, 2, 2, 0, 4])), (4, 1, 2))
        self.assertEqual(widest(Row([0, 2, 2, 0, 4])), (4, 1, 3))
        self.assertEqual(widest(Row([1, 2])), (2, 0, 2))

    def test_of_several_the_place_behind_that_is_least(self):
        self.assertEqual(widest(Row([2, 1])), (2, 0, 1))
        self.assertEqual(widest(Row([6, 3, 2])), (6, 0, 1))
        self.assertEqual(widest(Row([0, 6, 3, 2, 0])), (6, 1, 2))

    def test_noughts_alone(self):
        for size in (1, 2, 40):
            self.assertEqual(widest(Row([0] * size)), (0, 0, 1))

    def test_beginning_that_adds_nothing_to_a_block_is_not_taken_in(self):
        self.assertEqual(widest(Row([0, 0, 5])), (5, 2, 3))


class WaterTest(unittest.TestCase):
    def test_told_depths(self):
        self.assertEqual(water(Row([0, 1, 0, 2, 1, 0, 1, 3, 2, 1, 2, 1])), [0, 0, 1, 0, 1, 2, 1, 0, 0, 1, 0, 0])
        self.assertEqual(water(Row([3, 0, 5])), [0, 3, 0])
        self.assertEqual(water(Row([GREAT, 0, GREAT - 1])), [0, GREAT - 1, 0])

    def test_row_without_numbers(self):
        told = water(Row([]))
        self.assertIs(type(told), list)
        self.assertEqual(told, [])

    def test_rows_that_hold_no_water(self):
        for numbers in ([0], [8], [1, 2], [2, 1], [0] * 40, [6] * 40, list(range(40)), list(range(40, 0, -1)), [1, 9, 3]):
            self.assertEqual(water(Row(numbers)), [0] * len(numbers))

    def test_with_the_water_as_towers_no_water_stands(self):
        for numbers in sample_skies():
            depths = water(Row(numbers))
            self.assertTrue(all(depth >= 0 for depth in depths))
            full = [number + depth for number, depth in zip(numbers, depths)]
            self.assertEqual(water(Row(full)), [0] * len(numbers))


class HeldAgainstLooksTest(unittest.TestCase):
    def test_many_rows(self):
        for numbers in sample_skies():
            with self.subTest(numbers=numbers):
                check_sky(self, Row(numbers), numbers)

    def test_all_small_rows(self):
        for size in range(6):
            for numbers in itertools.product((0, 1, 2, 4), repeat=size):
                check_sky(self, Row(list(numbers)), list(numbers))

    def test_behind_each_deed(self):
        for lowest in (-6, 0):
            check_behind_deeds(self, check_sky, lowest)

    def test_behind_each_deed_of_long_runs(self):
        for lowest in (0, -1):
            check_long_runs(self, check_sky, range(300, 306), 120, lowest)


if __name__ == "__main__":
    unittest.main()
