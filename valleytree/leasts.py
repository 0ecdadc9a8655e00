"""The least of a stretch, the nearest lesser numbers, and the leasts of all stretches."""

from valleytree.rows import check_stretch


def least(row, first, behind):
    numbers = row.numbers()
    check_stretch(len(numbers), first, behind)
    part = numbers[first:behind]
    lowest = min(part)
    return (lowest, first + part.index(lowest))


def nearest_ahead(numbers, place):
    for other in range(place - 1, -1, -1):
        if numbers[other] < numbers[place]:
            return other
    return None


def nearest_behind(numbers, place):
    for other in range(place + 1, len(numbers)):
        if numbers[other] < numbers[place]:
            return other
    return None


def lesser_ahead(row):
    numbers = row.numbers()
    return [nearest_ahead(numbers, place) for place in range(len(numbers))]


def lesser_behind(row):
    numbers = row.numbers()
    return [nearest_behind(numbers, place) for place in range(len(numbers))]


# A stretch's least follows from that of the stretch one shorter, so no stretch is walked anew.
def all_leasts(numbers):
    found = []
    for first in range(len(numbers)):
        lowest = numbers[first]
        for number in numbers[first:]:
            lowest = min(lowest, number)
            found.append(lowest)
    return found


def sum_of_leasts(row):
    return sum(all_leasts(row.numbers()))


def stretches_from(row, number):
    return len([lowest for lowest in all_leasts(row.numbers()) if lowest >= number])
