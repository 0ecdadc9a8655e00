"""Rows to try things on, and plain looks at a list that the program is held against."""

import functools
import itertools
import random

from valleytree.errors import NoSky
from valleytree.leasts import least, lesser_ahead, lesser_behind, stretches_from, sum_of_leasts
from valleytree.orders import many_orders, order_at, order_number
from valleytree.rows import Row, joined
from valleytree.skylines import water, widest
from valleytree.trees import is_tree, many_trees, tree_at, tree_number, tree_of

GREAT = 10 ** 60 - 1


def sample_lists():
    chance = random.Random(11)
    samples = [
        [], [0], [-7], [GREAT], [-GREAT], [2, 1], [1, 2], [3, 3],
        [3, 1, 2, 1, 3], [2, 2, 2, 2], [0, -1, 0, -1, 0], [GREAT, -GREAT, GREAT - 1, 0, -GREAT],
        list(range(40)), list(range(40, 0, -1)), [5] * 40, [-5] * 40,
    ]
    for size in (2, 3, 5, 8, 13, 21, 39, 40):
        for bound in (1, 3, 50, GREAT):
            samples.append([chance.randint(-bound, bound) for place in range(size)])
    return samples


def stretches(size):
    return [(first, behind) for first in range(size) for behind in range(first + 1, size + 1)]


def look_least(numbers, first, behind):
    best = first
    for place in range(first, behind):
        if numbers[place] < numbers[best]:
            best = place
    return (numbers[best], best)


def look_ahead(numbers):
    lesser = [[q for q in range(p) if numbers[q] < numbers[p]] for p in range(len(numbers))]
    return [max(places) if places else None for places in lesser]


def look_behind(numbers):
    size = len(numbers)
    lesser = [[q for q in range(p + 1, size) if numbers[q] < numbers[p]] for p in range(size)]
    return [min(places) if places else None for places in lesser]


def look_all_leasts(numbers):
    return [look_least(numbers, first, behind)[0] for first, behind in stretches(len(numbers))]


def bounds_to_ask(numbers):
    """Each number that stands in the row, those just beside it, and some far from all."""
    beside = {number + step for number in numbers for step in (-1, 0, 1)}
    return sorted(beside | {0, GREAT, -GREAT, GREAT + 1, -GREAT - 1})


def check_leasts(case, row, numbers):
    """Hold every question about the row against a look at the plain list."""
    case.assertEqual(row.numbers(), numbers)
    for first, behind in stretches(len(numbers)):
        told = least(row, first, behind)
        case.assertEqual(told, look_least(numbers, first, behind))
        case.assertIs(type(told), tuple)
    case.assertEqual(lesser_ahead(row), look_ahead(numbers))
    case.assertEqual(lesser_behind(row), look_behind(numbers))
    leasts = look_all_leasts(numbers)
    case.assertEqual(sum_of_leasts(row), sum(leasts))
    for bound in bounds_to_ask(numbers):
        case.assertEqual(stretches_from(row, bound), len([low for low in leasts if low >= bound]))
    case.assertEqual(row.numbers(), numbers)


def look_tree(numbers):
    """The head of each stretch in turn, the whole row's first, as the document hangs them."""
    tree = [None] * len(numbers)
    open_stretches = [(0, len(numbers), None)]
    for first, behind, over in open_stretches:
        if first < behind:
            head = look_least(numbers, first, behind)[1]
            tree[head] = over
            open_stretches += [(first, head, head), (head + 1, behind, head)]
    return tree


@functools.cache
def orders_by_tree(size):
    """All orders of so many numbers, under the tree that each has."""
    found = {}
    for order in itertools.permutations(range(size)):
        found.setdefault(tuple(look_tree(order)), []).append(list(order))
    return found


def part_by_itself(tree, first, behind):
    """What stands at these places as a tree of its own: what hangs from without is its top."""
    part = tree[first:behind]
    return [over - first if over is not None and first <= over < behind else None for over in part]


def which_is_ahead(one, other):
    """Below 0 if the first of two trees over as many places is ahead in the document's order, 0 if they are alike."""
    if one == other:
        return 0
    top, other_top = one.index(None), other.index(None)
    if top != other_top:
        return top - other_top
    ahead = which_is_ahead(part_by_itself(one, 0, top), part_by_itself(other, 0, top))
    size = len(one)
    return ahead or which_is_ahead(part_by_itself(one, top + 1, size), part_by_itself(other, top + 1, size))


def trees_in_order(size):
    trees = [list(tree) for tree in orders_by_tree(size)]
    return sorted(trees, key=functools.cmp_to_key(which_is_ahead))


def part_sizes(tree):
    """For each place how many places stand at or under it, told by walking up from each one."""
    sizes = [0] * len(tree)
    for place in range(len(tree)):
        while place is not None:
            sizes[place] += 1
            place = tree[place]
    return sizes


def look_many_orders(tree):
    """Each place holds the least of all at and under it: of all orders, one in so many for each place."""
    many = 1
    for number in range(1, len(tree) + 1):
        many *= number
    for size in part_sizes(tree):
        many //= size
    return many


def evenly_parted(first, behind, over=None):
    if first == behind:
        return []
    middle = (first + behind) // 2
    return evenly_parted(first, middle, middle) + [over] + evenly_parted(middle + 1, behind, middle)


def one_way_trees(size):
    """Trees in which no place has two under it: down to the end, down to the beginning, and from both ends inwards."""
    inwards = []
    for place in range(size // 2):
        inwards += [place, size - 1 - place]
    inwards += [size // 2] if size % 2 else []
    zigzag = [None] * size
    for over, under in zip(inwards, inwards[1:]):
        zigzag[under] = over
    return [[None] + list(range(size - 1)), list(range(1, size)) + [None], zigzag]


def sample_trees():
    chance = random.Random(23)
    trees = []
    for size in (1, 2, 3, 7, 16, 31, 39, 40):
        trees += one_way_trees(size) + [evenly_parted(0, size)]
        trees += [look_tree(chance.sample(range(size), size)) for turn in range(4)]
    return trees


def some_numbers(chance, many):
    """The least, the greatest, those beside them and some between, of the numbers below so many."""
    numbers = {0, 1, many // 2, many - 2, many - 1} | {chance.randrange(many) for turn in range(20)}
    return sorted(number for number in numbers if 0 <= number < many)


def look_widest(numbers):
    best = None
    for first, behind in stretches(len(numbers)):
        area = look_least(numbers, first, behind)[0] * (behind - first)
        if best is None or area > best[0]:
            best = (area, first, behind)
        elif area == best[0] and (first, behind) < best[1:]:
            best = (area, first, behind)
    return best


def look_water(numbers):
    """For each place the highest level that towers on both sides, or its own, hold."""
    depths = []
    for place, number in enumerate(numbers):
        held = [level for level in numbers
                if any(n >= level for n in numbers[:place + 1]) and any(n >= level for n in numbers[place:])]
        depths.append(max(held) - number)
    return depths


def check_tree_of(case, row, numbers):
    """Hold the row's tree against a look, and the tree's and the order's numbers there and back."""
    tree = tree_of(row)
    case.assertIs(type(tree), list)
    case.assertEqual(tree, look_tree(numbers))
    case.assertEqual(is_tree(tree), bool(numbers))
    if numbers:
        number = tree_number(tree)
        case.assertTrue(0 <= number < many_trees(len(tree)))
        case.assertEqual(tree_at(len(tree), number), tree)
        many = many_orders(tree)
        case.assertEqual(many, look_many_orders(tree))
        # The places, those of lesser numbers first and of like ones the first first, tell the order alike to the row.
        places = sorted(range(len(numbers)), key=lambda place: (numbers[place], place))
        order = [places.index(place) for place in range(len(numbers))]
        case.assertEqual(order_at(tree, order_number(tree, order)), order)
    case.assertEqual(row.numbers(), numbers)


def check_sky(case, row, numbers):
    """Hold the widest block and the water against looks, or see both refused."""
    if any(number < 0 for number in numbers):
        case.assertRaises(NoSky, water, row)
        case.assertRaises(NoSky, widest, row)
    else:
        case.assertEqual(water(row), look_water(numbers))
        if numbers:
            told = widest(row)
            case.assertIs(type(told), tuple)
            case.assertEqual(told, look_widest(numbers))
        else:
            case.assertRaises(NoSky, widest, row)
    case.assertEqual(row.numbers(), numbers)


def check_all(case, row, numbers):
    """Hold all that can be asked of a row against looks at the plain list."""
    check_leasts(case, row, numbers)
    check_tree_of(case, row, numbers)
    check_sky(case, row, numbers)


def some_number(chance, lowest):
    bound = chance.choice((1, 4, 100, GREAT))
    return chance.randint(max(lowest, -bound), bound)


def do_some_deed(case, chance, row, plain, lowest=-GREAT):
    """Do one deed on the row and on the plain list; give back the row and the list to go on with.

    No number that is handed in is below the lowest one told.
    """
    size = len(plain)
    deeds = ["cut"]
    if size < 40:
        deeds += ["put_in", "put_in", "put_in"]
    if size:
        deeds += ["set_at", "take_out", "add_to"]
    deed = chance.choice(deeds)
    number = some_number(chance, lowest)
    if deed == "put_in":
        place = chance.randint(0, size)
        case.assertIsNone(row.put_in(place, number))
        return row, plain[:place] + [number] + plain[place:]
    if deed == "set_at":
        place = chance.randrange(size)
        case.assertIsNone(row.set_at(place, number))
        return row, plain[:place] + [number] + plain[place + 1:]
    if deed == "take_out":
        place = chance.randrange(size)
        case.assertEqual(row.take_out(place), plain[place])
        return row, plain[:place] + plain[place + 1:]
    if deed == "add_to":
        first, behind = chance.choice(stretches(size))
        case.assertIsNone(row.add_to(first, behind, number))
        return row, [n + number if first <= p < behind else n for p, n in enumerate(plain)]
    place = chance.randint(0, size)
    ahead, rest = row.cut(place)
    case.assertEqual((ahead.numbers(), rest.numbers()), (plain[:place], plain[place:]))
    case.assertEqual(row.numbers(), plain)
    return joined(rest, ahead), plain[place:] + plain[:place]


def check_behind_deeds(case, check, lowest):
    """Call the check behind each deed in turn, with no number below the lowest one told."""
    row = Row([4, 2, 2, 7, lowest])
    check(case, row, [4, 2, 2, 7, lowest])
    row.set_at(4, 3)
    check(case, row, [4, 2, 2, 7, 3])
    row.put_in(1, lowest)
    check(case, row, [4, lowest, 2, 2, 7, 3])
    row.add_to(1, 3, 5)
    check(case, row, [4, lowest + 5, 7, 2, 7, 3])
    row.take_out(1)
    check(case, row, [4, 7, 2, 7, 3])
    ahead, rest = row.cut(2)
    check(case, ahead, [4, 7])
    check(case, rest, [2, 7, 3])
    check(case, joined(rest, ahead), [2, 7, 3, 4, 7])
    check(case, row, [4, 7, 2, 7, 3])


def check_long_runs(case, check, seeds, steps, lowest=-GREAT):
    for seed in seeds:
        chance = random.Random(seed)
        plain = []
        row = Row(plain)
        for step in range(steps):
            row, plain = do_some_deed(case, chance, row, plain, lowest)
            check(case, row, plain)
