"""Light rows, by which alone a bed is known to be sure (point 16).

The question looks at a thing's kind ahead of its worth: so nothing that is handed in can make it fail.
"""

from stickytiles.holding import growings, held, kinds_by_place, none_grows_but, places_around, sides_held
from stickytiles.rows import grown, is_row


def is_held_by_just_enough(bed, row, number):
    tile = row[number]
    return held(bed, bed[2] + row[:number], tile[:2], tile[2]) == bed[0][0]


def places_put_upon(bed, row, number):
    tile = row[number]
    around = places_around(tile[:2])
    return [around[side] for side in sides_held(bed, bed[2] + row[:number], tile[:2], tile[2])]


def no_other_is_held(bed, row, end):
    bases = [places_put_upon(bed, row, number) for number in range(len(row))]
    for tile in row:
        place = tile[:2]
        later = [other[:2] for other, base in zip(row, bases) if place in base]
        rest = kinds_by_place([other for other in end if other[:2] not in later])
        if not none_grows_but(bed, tile, rest):
            return False
    return True


def is_light(bed, thing):
    if not is_row(bed, thing):
        return False
    end = grown(bed, thing)
    if growings(bed, end) != ():
        return False
    if not all([is_held_by_just_enough(bed, thing, number) for number in range(len(thing))]):
        return False
    return no_other_is_held(bed, thing, end)
