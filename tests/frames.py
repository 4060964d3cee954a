"""Framed beds for the tests, by hand and drawn (always the same ones), and their blocks by another hand."""

from tests.growers import sum_bed
from tests.samples import LETTERS, names


def frame(floor):
    return [(x, y) for x in range(floor[0]) for y in range(floor[1]) if y == 0 or x == floor[0] - 1]


def drawn_framed(chance, floor, most_names=4, kinds=None):
    """So many kinds, all unlike in south and east; names come on upright and level sides alike."""
    called = names(most_names)
    pairs = [(south, east) for south in called for east in called]
    count = chance.randint(1, len(pairs)) if kinds is None else kinds
    # In any order: so the number of a kind tells nothing of its sides.
    some = chance.sample(pairs, count)
    house_kinds = tuple(
        (chance.choice(("", *LETTERS, *"0123456789")), chance.choice(called), east, south, chance.choice(called))
        for south, east in some)
    seed = tuple(sorted((x, y, chance.randrange(count)) for x, y in frame(floor)))
    return ((2, tuple((name, 1) for name in called), house_kinds), floor, seed)


def great_framed(chance, floor):
    """Eleven names and 120 kinds."""
    return drawn_framed(chance, floor, 11, 120)


def framed_beds(chance, floors, most_names=4):
    return [sum_bed(*floor) for floor in floors] + [drawn_framed(chance, floor, most_names) for floor in floors]


def plain_block(many, tile):
    x, y, kind = tile
    return tuple(sorted(
        (many * x + number % many, many * y + number // many, kind * many * many + number)
        for number in range(many * many)))


def plain_blocks(many, standing):
    return tuple(sorted(tile for each in standing for tile in plain_block(many, each)))


def sticks_north(bed, many, one, other):
    """Whether the north side of one kind of the blocked bed sticks to the south side of another, by point 26."""
    (c, j, i), (d, k, h) = [(kind // many ** 2, kind % many ** 2 // many, kind % many) for kind in (one, other)]
    kinds = bed[0][2]
    within = c == d and i == h and k == j + 1
    at_ends = j == many - 1 and k == 0 and i == h and kinds[c][1] == kinds[d][3]
    return within or at_ends


def sticks_east(bed, many, one, other):
    """Whether the east side of one sticks to the west side of another."""
    (c, j, i), (d, k, h) = [(kind // many ** 2, kind % many ** 2 // many, kind % many) for kind in (one, other)]
    kinds = bed[0][2]
    within = c == d and j == k and h == i + 1
    at_ends = i == many - 1 and h == 0 and j == k and kinds[c][2] == kinds[d][4]
    return within or at_ends
