"""Beds that grow, for the tests: some by hand, some drawn (always the same ones), some as large as is promised."""

import random

from tests.samples import LETTERS, names

GREAT = 10 ** 30

# Two tiles beside the seed, by 2 each, and one that waits for both, by 1 and 1.
SQUARE_KINDS = (
    ("s", "u", "r", "", ""),
    ("r", "a", "", "", "r"),
    ("u", "", "b", "u", ""),
    ("c", "", "", "a", "b"),
)
SQUARE = ((2, (("a", 1), ("b", 1), ("r", 2), ("u", 2)), SQUARE_KINDS), (2, 2), ((0, 0, 0),))
SQUARE_END = ((0, 0, 0), (0, 1, 2), (1, 0, 1), (1, 1, 3))

# Kind 3 would be held at (1, 0), but only by the tile at (2, 0), which waits for the one at (1, 0).
LINE_KINDS = (("s", "", "a", "", ""), ("x", "", "b", "", "a"), ("y", "", "", "", "b"), ("z", "", "b", "", ""))
LINE = ((1, (("a", 1), ("b", 1)), LINE_KINDS), (4, 1), ((0, 0, 0),))
LINE_END = ((0, 0, 0), (1, 0, 1), (2, 0, 2))

# At (1, 0) one of two comes; behind the kind 2 one more.
FORK_KINDS = (("s", "", "a", "", ""), ("l", "", "", "", "a"), ("m", "", "a", "", "a"))
FORK = ((1, (("a", 1),), FORK_KINDS), (3, 1), ((0, 0, 0),))

# Which of two kinds comes to (1, 1) hangs on whether (0, 1) or (1, 0) comes first: the end of least growings is silent.
RACE_KINDS = (
    ("s", "a", "b", "", ""), ("n", "", "c", "a", ""), ("e", "d", "", "", "b"), ("v", "", "", "", "c"),
    ("w", "", "", "d", ""),
)
RACE = ((1, (("a", 1), ("b", 1), ("c", 1), ("d", 1)), RACE_KINDS), (2, 2), ((0, 0, 0),))

HAND_MADE = (SQUARE, LINE, FORK, RACE)


def carpet(wide, high, enough=1, kinds=1):
    """One kind that sticks to itself all around, so many times."""
    return ((enough, (("a", 4),), (("o", "a", "a", "a", "a"),) * kinds), (wide, high), ((wide // 2, high // 2, 0),))


def sum_bed(wide, high, more=()):
    """Each tile tells whether those south and east of it are unlike; south and east rims are the seed."""
    up, left = ("va", "vb"), ("ha", "hb")
    kinds = tuple(
        (str(south ^ east), up[south ^ east], left[east], up[south], left[south ^ east])
        for south in (0, 1) for east in (0, 1))
    sticks = tuple((name, 1) for name in sorted(up + left))
    rims = [(x, y) for x in range(wide) for y in range(high) if y == 0 or x == wide - 1]
    seed = tuple((x, y, (x * 5 + y * 3 + x * y) % 4) for x, y in rims)
    return ((2, sticks, kinds + more), (wide, high), seed)


def snake_places(wide, high):
    found = []
    for y in range(high):
        found += [(x, y) for x in (range(wide) if y % 2 == 0 else range(wide - 1, -1, -1))]
    return found


def chains(ways, floor, enough=4):
    """Along each way each place has a kind of its own and waits for all ahead of it; the first ones are the seed."""
    called = names(240)
    sides = {(0, 1): 0, (1, 0): 1, (0, -1): 2, (-1, 0): 3}
    kinds = []
    seed = []
    for way in ways:
        seed.append(way[0] + (len(kinds),))
        for k, place in enumerate(way):
            kinds.append([LETTERS[len(kinds) % 26], "", "", "", ""])
            if k > 0:
                side = sides[(place[0] - way[k - 1][0], place[1] - way[k - 1][1])]
                kinds[-2][1 + side] = kinds[-1][1 + (side + 2) % 4] = called[len(kinds) - 2]
    house = (enough, tuple((name, enough) for name in called), tuple(tuple(kind) for kind in kinds))
    return (house, floor, tuple(sorted(seed)))


def snake(wide, high, floor, enough=4):
    return chains([snake_places(wide, high)], floor, enough)


def chains_of(sizes, floor=(12, 12)):
    """So many tiles each behind its seed, the ways cut out of one that winds over the floor."""
    way = snake_places(*floor)
    ways = []
    for size in sizes:
        ways.append(way[:size + 1])
        way = way[size + 1:]
    return chains(ways, floor, 1)


def forks_of(sizes):
    """Places of which each has so many kinds to choose from, and which have nothing to do with each other."""
    called = names(len(sizes))
    kinds = [("", "", name, "", "") for name in called]
    for name, size in zip(called, sizes):
        kinds += [("", "", "", "", name)] * size
    seed = tuple((2 * (k % 6), k // 6, k) for k in range(len(sizes)))
    return ((1, tuple((name, 1) for name in called), tuple(kinds)), (12, 1 + len(sizes) // 6), tuple(sorted(seed)))


def with_kind_twice(bed, kind):
    enough, sticks, kinds = bed[0]
    return ((enough, sticks, kinds + (kinds[kind],)), bed[1], bed[2])


def with_seed(bed, seed):
    return (bed[0], bed[1], tuple(seed))


def drawn_sticks(chance, most):
    return tuple((name, chance.randint(1, 4)) for name in names(chance.randint(1, most)))


def drawn_enough(chance):
    # Less is drawn oftener, since more grows by it.
    return chance.choice((1, 1, 2, 2, 3, 4))


def drawn_seed(chance, spots, most):
    return tuple(sorted(chance.sample(spots, min(len(spots), chance.randint(1, most)))))


def drawn_free(chance, floor, most_kinds=3):
    """Kinds as they come."""
    sticks = drawn_sticks(chance, 3)
    sides = [name for name, strength in sticks] * 2 + [""]
    kinds = tuple(
        ("", *[chance.choice(sides) for side in range(4)]) for kind in range(chance.randint(1, most_kinds)))
    spots = [(x, y, chance.randrange(len(kinds))) for x in range(floor[0]) for y in range(floor[1])]
    return ((drawn_enough(chance), sticks, kinds), floor, drawn_seed(chance, spots, 2))


def drawn_picture(chance, floor):
    """Kinds cut out of one picture, so that much of it comes again."""
    sticks = drawn_sticks(chance, 2 * floor[0] * floor[1])
    called = [name for name, strength in sticks] * 3 + [""]
    across = {(x, y): chance.choice(called) for x in range(floor[0] + 1) for y in range(floor[1])}
    along = {(x, y): chance.choice(called) for x in range(floor[0]) for y in range(floor[1] + 1)}
    kinds = []
    spots = []
    for x in range(floor[0]):
        for y in range(floor[1]):
            kind = ("", along[(x, y + 1)], across[(x + 1, y)], along[(x, y)], across[(x, y)])
            if kind not in kinds:
                kinds.append(kind)
            spots.append((x, y, kinds.index(kind)))
    return ((drawn_enough(chance), sticks, tuple(kinds)), floor, drawn_seed(chance, spots, 2))


def drawn_mosaic(chance, floor):
    """Each place has a kind of its own, each two neighbours a stick of theirs, or none: so it is sure."""
    wide, high = floor
    called = names(240)
    enough = chance.choice((1, 2, 2, 3))
    kinds = {(x, y): ["", "", "", "", ""] for x in range(wide) for y in range(high)}
    sticks = []
    for x, y in list(kinds):
        for side, near in ((0, (x, y + 1)), (1, (x + 1, y))):
            if near in kinds and chance.randrange(6):
                kinds[(x, y)][1 + side] = kinds[near][3 + side] = called[len(sticks)]
                sticks.append((called[len(sticks)], chance.randint(max(1, enough - 1), enough)))
    spots = [place + (number,) for number, place in enumerate(kinds)]
    house = (enough, tuple(sticks), tuple(tuple(kind) for kind in kinds.values()))
    return (house, floor, drawn_seed(chance, spots, 1 + wide * high // 4))


def drawn_mosaics(count, floors, number=1):
    chance = random.Random(number)
    return [drawn_mosaic(chance, chance.choice(floors)) for step in range(count)]


def drawn_beds(count, floors, number=1):
    chance = random.Random(number)
    found = []
    for step in range(count):
        drawn = drawn_free if step % 2 else drawn_picture
        found.append(drawn(chance, chance.choice(floors)))
    return found


SMALL_FLOORS = ((1, 1), (1, 4), (2, 2), (3, 1), (6, 1), (1, 6), (2, 3), (3, 2), (3, 2), (2, 3), (5, 1))
TINY_FLOORS = ((1, 3), (2, 2), (4, 1), (3, 1), (2, 2))
MIDDLE_FLOORS = ((4, 4), (5, 3), (3, 5), (7, 2), (1, 12))
LARGE_FLOORS = ((7, 7), (12, 3), (3, 12), (5, 4), (9, 9))


def small_beds(count):
    return list(HAND_MADE) + drawn_beds(count, SMALL_FLOORS)


def large_beds():
    """Beds at the bounds, each with whether it is sure."""
    found = []
    for wide, high in ((7, 7), (12, 12), (12, 3)):
        found.append((sum_bed(wide, high), True))
        found.append((with_kind_twice(sum_bed(wide, high), 1), False))
        found.append((carpet(wide, high), True))
        found.append((carpet(wide, high, 4), True))
        found.append((carpet(wide, high, 3, 2), False))
    found.append((snake(12, 10, (12, 12)), True))
    found.append((snake(7, 7, (7, 7), 1), True))
    found.append((snake(12, 3, (12, 3), 2), True))
    found.append((with_kind_twice(snake(7, 7, (7, 7), 3), 48), False))
    found.append((carpet(12, 12, 1, 120), False))
    return found


def spoilt_rows(chance, bed, row):
    """The row with one thing done to it; it may be a row all the same."""
    found = []
    k = chance.randrange(len(row))
    m = chance.randrange(len(row))
    x, y, kind = row[k]
    found.append(row[:k + 1] + row[k:])
    found.append(row + row[k:k + 1])
    found.append(row[:k] + row[k + 1:])
    exchanged = list(row)
    exchanged[k], exchanged[m] = row[m], row[k]
    found.append(tuple(exchanged))
    found.append(row[::-1])
    for tile in (
            (x, y, (kind + 1) % len(bed[0][2])), (x + 1, y, kind), (x, y + 1, kind), (x - 1, y, kind), (x, y - 1, kind),
            (bed[1][0], y, kind), (x, bed[1][1], kind), (-1, y, kind), (x, -1, kind), (x, y, len(bed[0][2])),
            (x, y, -1), (x, y, kind - len(bed[0][2])), (x - bed[1][0], y, kind), (x, y - bed[1][1], kind),
            (GREAT, y, kind), (x, GREAT, kind), (x, y, GREAT), (-GREAT, y, kind), (x, -GREAT, kind), (x, y, -GREAT),
            *bed[2]):
        found.append(row[:k] + (tile,) + row[k + 1:])
        found.append(row[:k] + (tile,) + row[k:])
        found.append(row + (tile,))
    return found
