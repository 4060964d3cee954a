"""What waits for what in a sure bed, which sides hold first, and in how few turns all stands (points 13 to 15)."""

from stickytiles.holding import held, kinds_by_place, places_around
from stickytiles.keeper import Grow
from stickytiles.rows import first_end
from stickytiles.verdicts import sure_verdict


def waits(bed):
    # The verdict names all that waits: whatever lacks in the longest row without a place.
    told = sure_verdict(bed)
    return tuple(sorted([(tile[:2], places) for tile, places in zip(told[1], told[2])]))


def sides_in(seed_kinds, waiting, place):
    found = []
    for side, near in enumerate(places_around(place)):
        if near in seed_kinds or place in waiting.get(near, ()):
            found.append(side)
    return tuple(found)


def sides_out(waiting, place):
    return tuple([side for side, near in enumerate(places_around(place)) if near in waiting[place]])


def held_at(bed, end_kinds, tile, sides):
    around = places_around(tile[:2])
    nears = [around[side] for side in sides]
    tiles = [(x, y, end_kinds[(x, y)]) for x, y in nears]
    return held(bed, tiles, tile[:2], tile[2])


def first_sides(bed):
    waiting = dict(waits(bed))
    seed_kinds = kinds_by_place(bed[2])
    end = first_end(bed)[1]
    end_kinds = kinds_by_place(end)
    found = []
    for tile in end:
        place = tile[:2]
        if place in waiting:
            ins = sides_in(seed_kinds, waiting, place)
            found.append(tile + (ins, sides_out(waiting, place), held_at(bed, end_kinds, tile, ins)))
    return tuple(found)


def turns(bed):
    sure_verdict(bed)
    keeper = Grow(bed)
    found = []
    turn = keeper.growings()
    while turn:
        found.append(turn)
        # In a sure bed no growing takes the place of another, and what is held by enough stays so.
        for x, y, kind in turn:
            keeper.put(x, y, kind)
        turn = keeper.growings()
    return tuple(found)
