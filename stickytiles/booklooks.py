"""Who looks at books: whether one has all standings to which rows lead, and no other (point 18).

The question looks at a thing's kind ahead of its worth: so nothing that is handed in can make it fail.
"""

from stickytiles.beds import is_standing
from stickytiles.holding import growings, with_tile


def are_standings(bed, thing):
    return isinstance(thing, tuple) and all([is_standing(bed, part) for part in thing])


def all_lead_within(bed, written):
    # The seed needs none that leads to it.
    reached = {bed[2]: True}
    for standing in written:
        for tile in growings(bed, standing):
            behind = with_tile(standing, tile)
            if behind not in written:
                return False
            reached[behind] = True
    return len(reached) == len(written)


def shows_book(bed, thing):
    if not are_standings(bed, thing):
        return False
    written = {}
    for standing in thing:
        written[standing] = True
    if len(written) != len(thing) or bed[2] not in written:
        return False
    return all_lead_within(bed, written)
