"""The least of a stretch, the nearest lesser numbers, and the leasts of all stretches."""

from valleytree.rows import check_stretch


def least(row, first, behind):
    numbers = row.numbers()
    check_stretch(len(numbers), first, behind)
    part = numbers[first:behind]
    lowest = min(part)
    return (lowest, first + part.index(lowest))


def nearest_ahead(numbers, place):
    for other in range(place - 1, -1, -1):
        if numbers[other] < numbers[place]:
            return other
    return None


def nearest_behind(numbers, place):
    for other in range(place + 1, len(numbers)):
        if numbers[other] < numbers[place]:
            return other
    return None


def lesser_ahead(row):
    numbers = row.numbers()
    return [nearest_ahead(numbers, place) for place in range(len(numbers))]


def lesser_behind(row):
    numbers = row.numbers()
    return [nearest_behind(numbers, place) for place in range(len(numbers))]


# Each stretch's least with its two places. It follows from the least of the stretch one shorter, so no stretch is
# walked anew.
def all_leasts(numbers):
    found = []
    for first in range(len(numbers)):
        lowest = numbers[first]
        for place in range(first, len(numbers)):
            lowest = min(lowest, numbers[place])
            found.append((lowest, first, place + 1))
    return found


def sum_of_leasts(row):
    return sum([told[0] for told in all_leasts(row.numbers())])


def stretches_from(row, number):
    return len([told for told in all_leasts(row.numbers()) if told[0] >= number])
