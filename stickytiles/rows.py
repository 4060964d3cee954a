"""Rows: tiles put one behind the other, each a growing when its turn comes (point 9)."""

from stickytiles.beds import is_tile
from stickytiles.errors import NoGrowing
from stickytiles.holding import is_growing, kinds_by_place, places_around
from stickytiles.keeper import Grow


def grown(bed, row):
    strengths = dict(bed[0][1])
    standing_kinds = kinds_by_place(bed[2])
    for number, tile in enumerate(row):
        if not is_growing(bed, strengths, standing_kinds, tile):
            raise NoGrowing(number)
        standing_kinds[tile[:2]] = tile[2]
    return tuple(sorted(bed[2] + row))


def is_row(bed, thing):
    if not isinstance(thing, tuple) or not all([is_tile(bed, part) for part in thing]):
        return False
    try:
        grown(bed, thing)
    except NoGrowing:
        return False
    return True


def first_end(bed):
    keeper = Grow(bed)
    while keeper.on() is not None:
        pass
    return (keeper.row(), keeper.standing())


def row_among(bed, tiles):
    # A row of tiles of this standing alone, as long as such a one can be: whatever comes first, it puts the same.
    strengths = dict(bed[0][1])
    standing_kinds = kinds_by_place(bed[2])
    kinds = kinds_by_place(tiles)
    row = []
    # A place may be asked in vain and be held later: so each tile that is put has the places around it asked again.
    asked = list(kinds)
    while asked:
        place = asked.pop()
        tile = (place[0], place[1], kinds[place])
        if is_growing(bed, strengths, standing_kinds, tile):
            row.append(tile)
            standing_kinds[place] = kinds[place]
            asked.extend([near for near in places_around(place) if near in kinds])
    return tuple(row)
