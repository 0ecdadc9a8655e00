"""Skylines: the widest block, and the water that stands over the towers."""

from valleytree.errors import NoSky
from valleytree.leasts import all_leasts


def towers_of(row):
    towers = row.numbers()
    if any([tower < 0 for tower in towers]):
        raise NoSky("a skyline has no number below 0")
    return towers


def blocks_of(towers):
    return [(height * (behind - first), first, behind) for height, first, behind in all_leasts(towers)]


def widest(row):
    towers = towers_of(row)
    if towers == []:
        raise NoSky("a row without numbers has no block")
    return max(blocks_of(towers), key=lambda block: (block[0], -block[1], -block[2]))


def water_over(towers, place):
    level = min(max(towers[:place + 1]), max(towers[place:]))
    return level - towers[place]


def water(row):
    towers = towers_of(row)
    return [water_over(towers, place) for place in range(len(towers))]
