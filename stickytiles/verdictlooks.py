"""Who looks at verdicts: whether a paper shows what it says, asked of anything (point 12).

Each question looks at a thing's kind ahead of its worth: so nothing that is handed in can make it fail.
"""

from stickytiles.beds import is_place, is_tile, is_tuple, rises
from stickytiles.holding import growings, is_growing, kinds_by_place, none_grows_but
from stickytiles.rows import grown, is_row


def is_word(thing, word):
    return isinstance(thing, str) and thing == word


def are_places_of(bed, row_kinds, thing):
    if not isinstance(thing, tuple) or not all([is_place(bed, part) for part in thing]):
        return False
    return rises(thing) and all([place in row_kinds for place in thing])


def none_grows_at(bed, row_kinds, places, rest):
    # At an empty place a tile that is no growing is held by less than enough.
    strengths = dict(bed[0][1])
    tiles = [(x, y, row_kinds[(x, y)]) for x, y in places]
    return not any([is_growing(bed, strengths, rest, tile) for tile in tiles])


def shows_waits(bed, row, end, tile, thing):
    row_kinds = kinds_by_place(row)
    own = tile[:2]
    if not are_places_of(bed, row_kinds, thing) or own not in thing:
        return False
    rest = kinds_by_place([other for other in end if other[:2] not in thing])
    places = [place for place in thing if place != own]
    return none_grows_at(bed, row_kinds, places, rest) and none_grows_but(bed, tile, rest)


def shows_sure(bed, row, waits):
    if not is_row(bed, row) or not is_tuple(waits, len(row)):
        return False
    end = grown(bed, row)
    if growings(bed, end) != ():
        return False
    return all([shows_waits(bed, row, end, tile, places) for tile, places in zip(row, waits)])


def shows_parts(bed, row, one, other):
    if not is_row(bed, row) or not is_tile(bed, one) or not is_tile(bed, other):
        return False
    if one[:2] != other[:2] or one >= other:
        return False
    found = growings(bed, grown(bed, row))
    return one in found and other in found


def shows_verdict(bed, thing):
    if is_tuple(thing, 3) and is_word(thing[0], "sure"):
        return shows_sure(bed, thing[1], thing[2])
    if is_tuple(thing, 4) and is_word(thing[0], "parts"):
        return shows_parts(bed, thing[1], thing[2], thing[3])
    return False
