"""Rows of whole numbers, and what changes, cuts and joins them."""

from valleytree.errors import NoPlace, NoRow, NoStretch

MOST_NUMBERS = 40


def check_size(size):
    if size > MOST_NUMBERS:
        raise NoRow(f"a row has at most {MOST_NUMBERS} numbers")


def check_place(size, place):
    if not 0 <= place < size:
        raise NoPlace("no number stands at this place")


# Putting in and cutting happen ahead of a place, so the row's very end will do for them too.
def check_gap(size, place):
    if not 0 <= place <= size:
        raise NoPlace("this place is neither in the row nor its end")


def check_stretch(size, first, behind):
    if not 0 <= first < behind <= size:
        raise NoStretch("these two places tell no stretch of the row")


# Each method checks all that it may refuse ahead of its first change, so that a refusal turns nothing.
class Row:
    def __init__(self, numbers):
        check_size(len(numbers))
        self.held = list(numbers)

    # A copy, so that the asker may change what is told without changing the row.
    def numbers(self):
        return list(self.held)

    def set_at(self, place, number):
        check_place(len(self.held), place)
        self.held[place] = number

    def take_out(self, place):
        check_place(len(self.held), place)
        return self.held.pop(place)

    def put_in(self, place, number):
        check_size(len(self.held) + 1)
        check_gap(len(self.held), place)
        self.held.insert(place, number)

    def add_to(self, first, behind, number):
        check_stretch(len(self.held), first, behind)
        for place in range(first, behind):
            self.held[place] += number

    def cut(self, place):
        check_gap(len(self.held), place)
        return (Row(self.held[:place]), Row(self.held[place:]))


def joined(one, other):
    return Row(one.numbers() + other.numbers())
