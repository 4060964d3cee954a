"""Whether all rows that end do so in one standing, with a paper for it (point 11)."""

from stickytiles.errors import NotSure
from stickytiles.holding import growings_at, kinds_by_place, names_facing
from stickytiles.rows import first_end, row_among


def choices_at(bed, row, place):
    names = names_facing(bed, kinds_by_place(bed[2] + row), place)
    return growings_at(bed, dict(bed[0][1]), names, place)


def places_lacking(row, part):
    there = kinds_by_place(part)
    return tuple(sorted([tile[:2] for tile in row if tile[:2] not in there]))


def verdict(bed):
    row = first_end(bed)[0]
    waits = []
    for tile in row:
        # The first tile by which another row strays stands at the place of a tile of this one, and all ahead of it are
        # tiles of this one that can be put without that. So it is enough to look behind as many of them as can be.
        without = row_among(bed, [other for other in row if other != tile])
        # The tile itself is always among the choices: its row put it upon nothing but what can be put without it.
        choices = choices_at(bed, without, tile[:2])
        if len(choices) > 1:
            return ("parts", without, choices[0], choices[1])
        waits.append(places_lacking(row, without))
    return ("sure", row, tuple(waits))


def sure_verdict(bed):
    told = verdict(bed)
    if told[0] != "sure":
        raise NotSure()
    return told
