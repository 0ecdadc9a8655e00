"""Points [2] and [3]: rows, their deeds, and what stretches a deed takes."""

import random
import unittest

from valleytree.rows import Row, joined

from tests.helpers import GREAT, check_leasts, do_some_deed, sample_lists, stretches


def change_all(row, number):
    """Change the row by every method that changes one."""
    row.put_in(0, number)
    row.set_at(0, number + 1)
    row.add_to(0, len(row.numbers()), 3)
    row.take_out(len(row.numbers()) - 1)


class MakingTest(unittest.TestCase):
    def test_numbers_are_told_as_handed_in(self):
        for numbers in sample_lists():
            with self.subTest(numbers=numbers):
                self.assertEqual(Row(numbers).numbers(), numbers)

    def test_rows_of_none_one_and_forty(self):
        for numbers in ([], [-3], list(range(-20, 20))):
            self.assertEqual(Row(numbers).numbers(), numbers)

    def test_numbers_beyond_sixty_figures_are_not_refused(self):
        row = Row([GREAT * 10, -GREAT * 10])
        row.add_to(0, 2, GREAT * 100)
        check_leasts(self, row, [GREAT * 110, GREAT * 90])


class DeedTest(unittest.TestCase):
    def test_set_at_every_place(self):
        for numbers in sample_lists():
            for place in range(len(numbers)):
                row = Row(numbers)
                self.assertIsNone(row.set_at(place, -8))
                self.assertEqual(row.numbers(), numbers[:place] + [-8] + numbers[place + 1:])

    def test_take_out_every_place(self):
        for numbers in sample_lists():
            for place in range(len(numbers)):
                row = Row(numbers)
                self.assertEqual(row.take_out(place), numbers[place])
                self.assertEqual(row.numbers(), numbers[:place] + numbers[place + 1:])

    def test_put_in_every_place_and_the_end(self):
        for numbers in sample_lists():
            if len(numbers) == 40:
                continue
            for place in range(len(numbers) + 1):
                row = Row(numbers)
                self.assertIsNone(row.put_in(place, 6))
                self.assertEqual(row.numbers(), numbers[:place] + [6] + numbers[place:])

    def test_add_to_every_stretch(self):
        for numbers in sample_lists():
            for first, behind in stretches(len(numbers)):
                row = Row(numbers)
                self.assertIsNone(row.add_to(first, behind, -9))
                changed = [number - 9 for number in numbers[first:behind]]
                self.assertEqual(row.numbers(), numbers[:first] + changed + numbers[behind:])

    def test_add_nought_changes_nothing(self):
        row = Row([1, 2])
        row.add_to(0, 2, 0)
        self.assertEqual(row.numbers(), [1, 2])

    def test_row_fills_up_and_empties(self):
        row = Row([])
        for number in range(40):
            row.put_in(0, number)
        self.assertEqual(row.numbers(), list(range(39, -1, -1)))
        self.assertEqual([row.take_out(39 - step) for step in range(40)], list(range(40)))
        self.assertEqual(row.numbers(), [])


class CutTest(unittest.TestCase):
    def test_cut_every_place_and_the_end(self):
        for numbers in sample_lists():
            for place in range(len(numbers) + 1):
                row = Row(numbers)
                told = row.cut(place)
                self.assertIs(type(told), tuple)
                ahead, rest = told
                self.assertIsInstance(ahead, Row)
                self.assertIsInstance(rest, Row)
                self.assertEqual((ahead.numbers(), rest.numbers()), (numbers[:place], numbers[place:]))
                self.assertEqual(row.numbers(), numbers)

    def test_cut_at_nought_and_at_the_end(self):
        row = Row([4, 5, 6])
        self.assertEqual([part.numbers() for part in row.cut(0)], [[], [4, 5, 6]])
        self.assertEqual([part.numbers() for part in row.cut(3)], [[4, 5, 6], []])
        self.assertEqual([part.numbers() for part in Row([]).cut(0)], [[], []])

    def test_row_and_its_parts_do_not_hang_together(self):
        for place in range(4):
            row = Row([7, 8, 9])
            ahead, rest = row.cut(place)
            change_all(row, 50)
            self.assertEqual(ahead.numbers() + rest.numbers(), [7, 8, 9])
            told = row.numbers()
            change_all(ahead, 60)
            self.assertEqual(rest.numbers(), [7, 8, 9][place:])
            kept = ahead.numbers()
            change_all(rest, 70)
            self.assertEqual(ahead.numbers(), kept)
            self.assertEqual(row.numbers(), told)

    def test_parts_of_nothing_are_two_rows(self):
        row = Row([])
        ahead, rest = row.cut(0)
        ahead.put_in(0, 1)
        self.assertEqual((row.numbers(), ahead.numbers(), rest.numbers()), ([], [1], []))


class JoinedTest(unittest.TestCase):
    def test_second_stands_behind_the_first(self):
        for one in sample_lists():
            for other in sample_lists():
                if len(one) + len(other) <= 40:
                    new = joined(Row(one), Row(other))
                    self.assertIsInstance(new, Row)
                    self.assertEqual(new.numbers(), one + other)

    def test_joined_rows_and_the_new_one_do_not_hang_together(self):
        for left, right in (([1, 2], [3]), ([], [3, 4]), ([1, 2], []), ([], [])):
            one, other = Row(left), Row(right)
            new = joined(one, other)
            change_all(one, 50)
            change_all(other, 60)
            self.assertEqual(new.numbers(), left + right)
            told = (one.numbers(), other.numbers())
            change_all(new, 70)
            self.assertEqual((one.numbers(), other.numbers()), told)

    def test_a_row_joined_to_itself(self):
        row = Row([1, 2])
        new = joined(row, row)
        new.set_at(0, 9)
        self.assertEqual((new.numbers(), row.numbers()), ([9, 2, 1, 2], [1, 2]))

    def test_forty_in_all_are_fine(self):
        self.assertEqual(joined(Row([1] * 20), Row([2] * 20)).numbers(), [1] * 20 + [2] * 20)
        self.assertEqual(joined(Row([]), Row([2] * 40)).numbers(), [2] * 40)


class LongRunTest(unittest.TestCase):
    def test_long_runs_against_a_plain_list(self):
        for seed in range(20):
            chance = random.Random(seed)
            plain = []
            row = Row(plain)
            for step in range(300):
                row, plain = do_some_deed(self, chance, row, plain)
                self.assertEqual(row.numbers(), plain)


if __name__ == "__main__":
    unittest.main()
