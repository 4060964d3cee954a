"""Framed beds, and beds laid in blocks (point 26)."""

from stickytiles.errors import NotFramed
from stickytiles.naming import house_of, numbered

LONGEST = 12


def is_frame(floor, seed):
    # The seed's places are unlike: so it is enough that they are of the frame and as many as the frame has.
    wide = floor[0]
    return len(seed) == wide + floor[1] - 1 and all([y == 0 or x == wide - 1 for x, y, kind in seed])


def is_framed(bed):
    house = bed[0]
    if house[0] != 2 or not all([stick[1] == 1 for stick in house[1]]):
        return False
    if any(["" in kind[1:] for kind in house[2]]):
        return False
    if len(set([(kind[3], kind[2]) for kind in house[2]])) < len(house[2]):
        return False
    return is_frame(bed[1], bed[2])


def number_in_block(many, kind, i, j):
    return kind * many * many + j * many + i


def end_names(bed, many, letter):
    # For each stick the names that a block has for it along one end.
    found = {}
    for number, stick in enumerate(bed[0][1]):
        found[stick[0]] = [numbered(letter, number * many + step) for step in range(many)]
    return found


def name_above(bed, many, upright, kind, i, j):
    if j == many - 1:
        return upright[bed[0][2][kind][1]][i]
    return numbered("n", number_in_block(many, kind, i, j))


def name_below(bed, many, upright, kind, i, j):
    if j == 0:
        return upright[bed[0][2][kind][3]][i]
    return name_above(bed, many, upright, kind, i, j - 1)


def name_east(bed, many, level, kind, i, j):
    if i == many - 1:
        return level[bed[0][2][kind][2]][j]
    return numbered("e", number_in_block(many, kind, i, j))


def name_west(bed, many, level, kind, i, j):
    if i == 0:
        return level[bed[0][2][kind][4]][j]
    return name_east(bed, many, level, kind, i - 1, j)


def block_kinds(bed, many):
    upright = end_names(bed, many, "v")
    level = end_names(bed, many, "h")
    found = []
    for kind, sides in enumerate(bed[0][2]):
        for j in range(many):
            for i in range(many):
                north = name_above(bed, many, upright, kind, i, j)
                east = name_east(bed, many, level, kind, i, j)
                south = name_below(bed, many, upright, kind, i, j)
                west = name_west(bed, many, level, kind, i, j)
                found.append((sides[0], north, east, south, west))
    return found


def block_tiles(many, tile):
    found = []
    for i in range(many):
        for j in range(many):
            found.append((many * tile[0] + i, many * tile[1] + j, number_in_block(many, tile[2], i, j)))
    return found


def blocked(bed, many):
    floor = (many * bed[1][0], many * bed[1][1])
    if not is_framed(bed) or floor[0] > LONGEST or floor[1] > LONGEST:
        raise NotFramed()
    kinds = block_kinds(bed, many)
    strengths = {}
    for kind in kinds:
        for name in kind[1:]:
            strengths[name] = 1
    seed = []
    for tile in bed[2]:
        seed.extend(block_tiles(many, tile))
    return (house_of(2, strengths, kinds), floor, tuple(sorted(seed)))
