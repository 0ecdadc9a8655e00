"""Rows to try things on, and plain looks at a list that the program is held against."""

import random

from valleytree.leasts import least, lesser_ahead, lesser_behind, stretches_from, sum_of_leasts
from valleytree.rows import joined

GREAT = 10 ** 60 - 1


def sample_lists():
    chance = random.Random(11)
    samples = [
        [], [0], [-7], [GREAT], [-GREAT], [2, 1], [1, 2], [3, 3],
        [3, 1, 2, 1, 3], [2, 2, 2, 2], [0, -1, 0, -1, 0], [GREAT, -GREAT, GREAT - 1, 0, -GREAT],
        list(range(40)), list(range(40, 0, -1)), [5] * 40, [-5] * 40,
    ]
    for size in (2, 3, 5, 8, 13, 21, 39, 40):
        for bound in (1, 3, 50, GREAT):
            samples.append([chance.randint(-bound, bound) for place in range(size)])
    return samples


def stretches(size):
    return [(first, behind) for first in range(size) for behind in range(first + 1, size + 1)]


def look_least(numbers, first, behind):
    best = first
    for place in range(first, behind):
        if numbers[place] < numbers[best]:
            best = place
    return (numbers[best], best)


def look_ahead(numbers):
    lesser = [[q for q in range(p) if numbers[q] < numbers[p]] for p in range(len(numbers))]
    return [max(places) if places else None for places in lesser]


def look_behind(numbers):
    size = len(numbers)
    lesser = [[q for q in range(p + 1, size) if numbers[q] < numbers[p]] for p in range(size)]
    return [min(places) if places else None for places in lesser]


def look_all_leasts(numbers):
    return [look_least(numbers, first, behind)[0] for first, behind in stretches(len(numbers))]


def bounds_to_ask(numbers):
    """Each number that stands in the row, those just beside it, and some far from all."""
    beside = {number + step for number in numbers for step in (-1, 0, 1)}
    return sorted(beside | {0, GREAT, -GREAT, GREAT + 1, -GREAT - 1})


def check_leasts(case, row, numbers):
    """Hold every question about the row against a look at the plain list."""
    case.assertEqual(row.numbers(), numbers)
    for first, behind in stretches(len(numbers)):
        told = least(row, first, behind)
        case.assertEqual(told, look_least(numbers, first, behind))
        case.assertIs(type(told), tuple)
    case.assertEqual(lesser_ahead(row), look_ahead(numbers))
    case.assertEqual(lesser_behind(row), look_behind(numbers))
    leasts = look_all_leasts(numbers)
    case.assertEqual(sum_of_leasts(row), sum(leasts))
    for bound in bounds_to_ask(numbers):
        case.assertEqual(stretches_from(row, bound), len([low for low in leasts if low >= bound]))
    case.assertEqual(row.numbers(), numbers)


def some_number(chance):
    bound = chance.choice((1, 4, 100, GREAT))
    return chance.randint(-bound, bound)


def do_some_deed(case, chance, row, plain):
    """Do one deed on the row and on the plain list; give back the row and the list to go on with."""
    size = len(plain)
    deeds = ["cut"]
    if size < 40:
        deeds += ["put_in", "put_in", "put_in"]
    if size:
        deeds += ["set_at", "take_out", "add_to"]
    deed = chance.choice(deeds)
    number = some_number(chance)
    if deed == "put_in":
        place = chance.randint(0, size)
        case.assertIsNone(row.put_in(place, number))
        return row, plain[:place] + [number] + plain[place:]
    if deed == "set_at":
        place = chance.randrange(size)
        case.assertIsNone(row.set_at(place, number))
        return row, plain[:place] + [number] + plain[place + 1:]
    if deed == "take_out":
        place = chance.randrange(size)
        case.assertEqual(row.take_out(place), plain[place])
        return row, plain[:place] + plain[place + 1:]
    if deed == "add_to":
        first, behind = chance.choice(stretches(size))
        case.assertIsNone(row.add_to(first, behind, number))
        return row, [n + number if first <= p < behind else n for p, n in enumerate(plain)]
    place = chance.randint(0, size)
    ahead, rest = row.cut(place)
    case.assertEqual((ahead.numbers(), rest.numbers()), (plain[:place], plain[place:]))
    case.assertEqual(row.numbers(), plain)
    return joined(rest, ahead), plain[place:] + plain[:place]
