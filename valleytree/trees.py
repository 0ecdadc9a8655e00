"""The tree of heads over a row's places, which lists are trees, and the numbers of trees."""

from valleytree.errors import NoNumber, NoTree
from valleytree.leasts import least
from valleytree.rows import MOST_NUMBERS


def tree_over(row, first, behind, over):
    if first == behind:
        return []
    head = least(row, first, behind)[1]
    return tree_over(row, first, head, head) + [over] + tree_over(row, head + 1, behind, head)


def tree_of(row):
    return tree_over(row, 0, len(row.numbers()), None)


def head_under(tree, first, behind, over):
    return first + tree[first:behind].index(over)


# Every place is the head of just one part, so asking each part for its one head asks each entry of the list.
def is_part(some, first, behind, over):
    if first == behind:
        return True
    if some[first:behind].count(over) != 1:
        return False
    head = head_under(some, first, behind, over)
    return is_part(some, first, head, head) and is_part(some, head + 1, behind, head)


def is_tree(some):
    return 1 <= len(some) <= MOST_NUMBERS and is_part(some, 0, len(some), None)


def check_tree(some):
    if not is_tree(some):
        raise NoTree("this list is no tree")


def check_places(size):
    if not 1 <= size <= MOST_NUMBERS:
        raise NoNumber(f"a tree stands over 1 to {MOST_NUMBERS} places")


def check_number(many, number):
    if not 0 <= number < many:
        raise NoNumber("nothing has this number")


# A part of nothing has one tree, so the count over no places is 1.
def tree_counts(size):
    counts = [1]
    for places in range(1, size + 1):
        counts.append(sum([counts[head] * counts[places - 1 - head] for head in range(places)]))
    return counts


def many_trees(size):
    check_places(size)
    return tree_counts(size)[size]


def many_with_head(counts, first, head, behind):
    return counts[head - first] * counts[behind - head - 1]


def tree_with_number(counts, first, behind, over, number):
    if first == behind:
        return []
    head = first
    while number >= many_with_head(counts, first, head, behind):
        number -= many_with_head(counts, first, head, behind)
        head += 1
    # The part behind the head runs through all its trees while the part ahead keeps one.
    many_behind = counts[behind - head - 1]
    ahead = tree_with_number(counts, first, head, head, number // many_behind)
    rest = tree_with_number(counts, head + 1, behind, head, number % many_behind)
    return ahead + [over] + rest


def tree_at(size, number):
    check_places(size)
    counts = tree_counts(size)
    check_number(counts[size], number)
    return tree_with_number(counts, 0, size, None, number)


def number_of_part(tree, counts, first, behind, over):
    if first == behind:
        return 0
    head = head_under(tree, first, behind, over)
    lesser_heads = sum([many_with_head(counts, first, other, behind) for other in range(first, head)])
    ahead = number_of_part(tree, counts, first, head, head)
    rest = number_of_part(tree, counts, head + 1, behind, head)
    return lesser_heads + ahead * counts[behind - head - 1] + rest


def tree_number(tree):
    check_tree(tree)
    return number_of_part(tree, tree_counts(len(tree)), 0, len(tree), None)
