"""By what a kind is held at a place, and what may grow (points 7 and 8)."""

from stickytiles.beds import is_place


def places_around(place):
    # In the order of the sides: north, east, south, west.
    x = place[0]
    y = place[1]
    return ((x, y + 1), (x + 1, y), (x, y - 1), (x - 1, y))


def sides_of(bed, kind):
    # A number of no kind has no side that sticks: else -1 would be the last kind, as Python counts.
    kinds = bed[0][2]
    if 0 <= kind < len(kinds):
        return kinds[kind][1:]
    return ("", "", "", "")


def kinds_by_place(standing):
    kinds = {}
    for x, y, kind in standing:
        kinds[(x, y)] = kind
    return kinds


def names_facing(bed, standing_kinds, place):
    names = []
    for side, near in enumerate(places_around(place)):
        if near in standing_kinds:
            names.append(sides_of(bed, standing_kinds[near])[(side + 2) % 4])
        else:
            names.append("")
    return names


def sides_alike(sides, names):
    # "" beside "" is alike but sticks to nothing.
    return tuple([side for side in range(4) if sides[side] != "" and sides[side] == names[side]])


def strength_together(strengths, sides, names):
    return sum([strengths[side] for side, name in zip(sides, names) if side == name and side != ""])


def with_tile(standing, tile):
    return tuple(sorted(standing + (tile,)))


def sides_held(bed, standing, place, kind):
    names = names_facing(bed, kinds_by_place(standing), place)
    return sides_alike(sides_of(bed, kind), names)


def held(bed, standing, place, kind):
    names = names_facing(bed, kinds_by_place(standing), place)
    return strength_together(dict(bed[0][1]), sides_of(bed, kind), names)


def is_growing(bed, strengths, standing_kinds, tile):
    place = tile[:2]
    if place in standing_kinds or not is_place(bed, place):
        return False
    names = names_facing(bed, standing_kinds, place)
    return strength_together(strengths, sides_of(bed, tile[2]), names) >= bed[0][0]


def growings_at(bed, strengths, names, place):
    house = bed[0]
    found = []
    # Most places of a wide floor lie beside nothing that sticks: there no kind need be asked.
    if not any(names):
        return found
    for number, kind in enumerate(house[2]):
        if strength_together(strengths, kind[1:], names) >= house[0]:
            found.append((place[0], place[1], number))
    return found


def none_grows_but(bed, tile, rest):
    names = names_facing(bed, rest, tile[:2])
    return all([other == tile for other in growings_at(bed, dict(bed[0][1]), names, tile[:2])])


def growings(bed, standing):
    floor = bed[1]
    strengths = dict(bed[0][1])
    standing_kinds = kinds_by_place(standing)
    found = []
    # Walked from west to east and from south to north, then kind by kind, the growings rise by themselves.
    for x in range(floor[0]):
        for y in range(floor[1]):
            if (x, y) not in standing_kinds:
                names = names_facing(bed, standing_kinds, (x, y))
                found.extend(growings_at(bed, strengths, names, (x, y)))
    return tuple(found)
