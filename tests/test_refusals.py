"""Point [11]: each refusal by each call that refuses so, their order, and that a refusal turns nothing."""

import unittest

from valleytree.errors import NoPlace, NoRow, NoStretch, RowError
from valleytree.leasts import least
from valleytree.rows import Row, joined

from tests.helpers import GREAT, check_leasts

SAMPLES = ([], [5], [3, 1, 2], list(range(39)), [-4] * 40)


def bad_places(size):
    return (-1, -2, -size, -size - 1, size, size + 1, size + 40, GREAT, -GREAT)


def no_stretches(size):
    pairs = [(-1, size), (-1, 0), (-1, 1), (-2, -1), (-GREAT, 1), (-size, size), (0, size + 1), (0, GREAT)]
    pairs += [(size, size + 1), (size, size), (size + 1, size + 1), (size + 1, size + 2), (0, 0), (0, -1)]
    pairs += [(size, 0), (1, 0), (2, 1), (2, 2), (-1, -1), (-1, size + 1), (size + 1, 0)]
    return [(first, behind) for first, behind in pairs if not 0 <= first < behind <= size]


class RefusalCase(unittest.TestCase):
    def check_refused(self, kind, row, call):
        """The call refuses with the very class told, and the row stays, for all that can be asked."""
        before = row.numbers()
        with self.assertRaises(RowError) as caught:
            call()
        self.assertIs(type(caught.exception), kind)
        self.assertIsInstance(caught.exception, ValueError)
        self.assertEqual(row.numbers(), before)


class NoRowTest(RefusalCase):
    def test_making(self):
        for size in (41, 42, 60, 61, 200):
            numbers = list(range(size))
            with self.assertRaises(RowError) as caught:
                Row(numbers)
            self.assertIs(type(caught.exception), NoRow)
            self.assertEqual(numbers, list(range(size)))

    def test_put_in(self):
        row = Row(list(range(40)))
        for place in (0, 17, 39, 40):
            self.check_refused(NoRow, row, lambda: row.put_in(place, 5))
        row.take_out(0)
        row.put_in(39, 5)
        self.check_refused(NoRow, row, lambda: row.put_in(0, 5))

    def test_joined(self):
        for left, right in ((40, 1), (1, 40), (20, 21), (40, 40)):
            one, other = Row([1] * left), Row([2] * right)
            self.check_refused(NoRow, one, lambda: joined(one, other))
            self.assertEqual(other.numbers(), [2] * right)
        row = Row([3] * 21)
        self.check_refused(NoRow, row, lambda: joined(row, row))


class NoPlaceTest(RefusalCase):
    def test_set_at_and_take_out(self):
        for numbers in SAMPLES:
            row = Row(numbers)
            for place in bad_places(len(numbers)):
                if 0 <= place < len(numbers):
                    continue
                self.check_refused(NoPlace, row, lambda: row.set_at(place, 8))
                self.check_refused(NoPlace, row, lambda: row.take_out(place))

    def test_put_in_and_cut(self):
        for numbers in SAMPLES:
            row = Row(numbers)
            for place in bad_places(len(numbers)):
                if 0 <= place <= len(numbers):
                    continue
                self.check_refused(NoPlace, row, lambda: row.cut(place))
                if len(numbers) < 40:
                    self.check_refused(NoPlace, row, lambda: row.put_in(place, 8))

    def test_how_many_there_are_is_fine_for_putting_in_and_cutting(self):
        row = Row([1, 2])
        self.assertEqual([part.numbers() for part in row.cut(2)], [[1, 2], []])
        row.put_in(2, 3)
        self.assertEqual(row.numbers(), [1, 2, 3])


class NoStretchTest(RefusalCase):
    def test_add_to_and_least(self):
        for numbers in SAMPLES:
            row = Row(numbers)
            for first, behind in no_stretches(len(numbers)):
                with self.subTest(size=len(numbers), first=first, behind=behind):
                    self.check_refused(NoStretch, row, lambda: row.add_to(first, behind, 8))
                    self.check_refused(NoStretch, row, lambda: least(row, first, behind))

    def test_whole_row_and_last_number_are_fine(self):
        row = Row([4, 3])
        self.assertEqual(least(row, 0, 2), (3, 1))
        self.assertEqual(least(row, 1, 2), (3, 1))
        row.add_to(1, 2, 5)
        row.add_to(0, 2, 1)
        self.assertEqual(row.numbers(), [5, 9])


class OrderTest(RefusalCase):
    def test_full_row_goes_ahead_of_a_place_that_is_none(self):
        row = Row([0] * 40)
        for place in (-1, 41, GREAT, -GREAT):
            self.check_refused(NoRow, row, lambda: row.put_in(place, 5))


class TurnsNothingTest(RefusalCase):
    def test_all_goes_on_behind_refusals(self):
        row = Row([2, 9, 2])
        self.check_refused(NoPlace, row, lambda: row.set_at(3, 0))
        self.check_refused(NoPlace, row, lambda: row.take_out(-1))
        self.check_refused(NoPlace, row, lambda: row.put_in(4, 0))
        self.check_refused(NoStretch, row, lambda: row.add_to(0, 4, 1))
        self.check_refused(NoPlace, row, lambda: row.cut(4))
        self.check_refused(NoRow, row, lambda: joined(row, Row([0] * 38)))
        check_leasts(self, row, [2, 9, 2])
        row.put_in(3, -1)
        check_leasts(self, row, [2, 9, 2, -1])


if __name__ == "__main__":
    unittest.main()
