"""The orders that have a tree, and their numbers.

The least number of a part stands at its head; the others are parted between what is ahead of the head and what is
behind it, and each side is an order by itself. An order's number is made of the parting's number and the two sides'.
"""

from valleytree.errors import NoOrder
from valleytree.rows import Row
from valleytree.trees import check_number, check_tree, head_under, tree_of


# How many ways there are to take so many things out of many.
def ways_to_take(many, taken):
    ways = 1
    for step in range(taken):
        ways = ways * (many - step) // (step + 1)
    return ways


def many_in_part(tree, first, behind, over):
    if first == behind:
        return 1
    head = head_under(tree, first, behind, over)
    ahead = many_in_part(tree, first, head, head)
    rest = many_in_part(tree, head + 1, behind, head)
    return ways_to_take(behind - first - 1, head - first) * ahead * rest


def many_orders(tree):
    check_tree(tree)
    return many_in_part(tree, 0, len(tree), None)


# Of the partings still open at an entry, those that put it to the rest come first.
def parting_at(entries, taken, number):
    ahead = []
    rest = []
    for place, entry in enumerate(entries):
        ways = ways_to_take(len(entries) - place - 1, taken - len(ahead))
        if number < ways:
            rest.append(entry)
        else:
            number -= ways
            ahead.append(entry)
    return (ahead, rest)


def parting_number(ahead, rest):
    entries = sorted(ahead + rest)
    wanted = len(ahead)
    number = 0
    for place, entry in enumerate(entries):
        if entry in ahead:
            number += ways_to_take(len(entries) - place - 1, wanted)
            wanted -= 1
    return number


def order_in_part(tree, first, over, entries, number):
    if entries == []:
        return []
    behind = first + len(entries)
    head = head_under(tree, first, behind, over)
    many_ahead = many_in_part(tree, first, head, head)
    many_behind = many_in_part(tree, head + 1, behind, head)
    parts = parting_at(entries[1:], head - first, number // (many_ahead * many_behind))
    ahead = order_in_part(tree, first, head, parts[0], number // many_behind % many_ahead)
    rest = order_in_part(tree, head + 1, head, parts[1], number % many_behind)
    return ahead + [entries[0]] + rest


def order_at(tree, number):
    check_number(many_orders(tree), number)
    return order_in_part(tree, 0, None, list(range(len(tree))), number)


def check_order(tree, order):
    once = [number for number in range(len(tree)) if order.count(number) == 1]
    if len(order) != len(tree) or len(once) != len(tree):
        raise NoOrder("this list is no order of as many numbers as the tree has places")
    if tree_of(Row(order)) != tree:
        raise NoOrder("this order has another tree")


def number_in_part(tree, order, first, behind, over):
    if first == behind:
        return 0
    head = head_under(tree, first, behind, over)
    many_ahead = many_in_part(tree, first, head, head)
    many_behind = many_in_part(tree, head + 1, behind, head)
    parting = parting_number(order[first:head], order[head + 1:behind])
    ahead = number_in_part(tree, order, first, head, head)
    rest = number_in_part(tree, order, head + 1, behind, head)
    return (parting * many_ahead + ahead) * many_behind + rest


def order_number(tree, order):
    check_tree(tree)
    check_order(tree, order)
    return number_in_part(tree, order, 0, len(tree), None)
