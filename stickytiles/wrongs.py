"""Wrong tiles, held by something but by less than enough, and rough rows, in which they may stand (point 27)."""

from stickytiles.beds import is_place
from stickytiles.errors import NoGrowing
from stickytiles.holding import kinds_by_place, names_facing, sides_of, strength_together


def step_price(bed, strengths, standing_kinds, tile):
    # 0 for a growing, 1 for a wrong one, None for what is neither.
    place = tile[:2]
    if place in standing_kinds or not is_place(bed, place):
        return None
    names = names_facing(bed, standing_kinds, place)
    strength = strength_together(strengths, sides_of(bed, tile[2]), names)
    if strength == 0:
        return None
    return 0 if strength >= bed[0][0] else 1


def wrong_ones_from(bed, base, row):
    strengths = dict(bed[0][1])
    standing_kinds = kinds_by_place(base)
    found = []
    for number, tile in enumerate(row):
        price = step_price(bed, strengths, standing_kinds, tile)
        if price is None:
            raise NoGrowing(number)
        if price == 1:
            found.append(number)
        standing_kinds[tile[:2]] = tile[2]
    return tuple(found)


def wrong_ones(bed, row):
    return wrong_ones_from(bed, bed[2], row)
