"""All standings to which rows lead, and all ends, of beds that have few enough (point 17)."""

from stickytiles.errors import TooMany
from stickytiles.holding import growings, with_tile

MOST_STANDINGS = 2000


def growings_by_standing(bed):
    found = {}
    level = [bed[2]]
    # Level by level, each with a tile more: so what is found stands in the book's order.
    while level:
        behind = {}
        for standing in level:
            found[standing] = growings(bed, standing)
            for tile in found[standing]:
                behind[with_tile(standing, tile)] = True
            # Asked at each standing, since a level may have far more than can be kept.
            if len(found) + len(behind) > MOST_STANDINGS:
                raise TooMany()
        level = sorted(behind)
    return found


def book(bed):
    return tuple(growings_by_standing(bed))


def ends(bed):
    may = growings_by_standing(bed)
    return tuple(sorted([standing for standing in may if may[standing] == ()]))


def tiles_in_ends(bed, all_ends):
    # How many ends each tile stands in, but for the seed's.
    counts = {}
    for end in all_ends:
        for tile in end:
            if tile not in bed[2]:
                counts[tile] = counts.get(tile, 0) + 1
    return counts


def always(bed):
    all_ends = ends(bed)
    counts = tiles_in_ends(bed, all_ends)
    return tuple([tile for tile in sorted(counts) if counts[tile] == len(all_ends)])


def ever(bed):
    return tuple(sorted(tiles_in_ends(bed, ends(bed))))
