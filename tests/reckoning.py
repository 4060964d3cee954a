"""A second way of reckoning, slow and plain, against which the program is held."""

NORTH, EAST, SOUTH, WEST = 0, 1, 2, 3


def places(bed):
    return [(x, y) for x in range(bed[1][0]) for y in range(bed[1][1])]


def plain_sides_held(bed, standing, place, kind):
    """Tile by tile, by how it lies to the place."""
    sides = {(0, 1): (NORTH, SOUTH), (1, 0): (EAST, WEST), (0, -1): (SOUTH, NORTH), (-1, 0): (WEST, EAST)}
    found = set()
    for x, y, other in standing:
        way = (x - place[0], y - place[1])
        if way in sides:
            own, facing = sides[way]
            name = bed[0][2][kind][1 + own]
            if name and name == bed[0][2][other][1 + facing]:
                found.add(own)
    return tuple(sorted(found))


def plain_held(bed, standing, place, kind):
    strengths = dict(bed[0][1])
    return sum(strengths[bed[0][2][kind][1 + side]] for side in plain_sides_held(bed, standing, place, kind))


def plain_grows(bed, standing, tile):
    place, kind = tile[:2], tile[2]
    if place not in places(bed) or place in [other[:2] for other in standing] or kind not in range(len(bed[0][2])):
        return False
    return plain_held(bed, standing, place, kind) >= bed[0][0]


def plain_growings(bed, standing):
    taken = {(x, y) for x, y, kind in standing}
    return tuple(sorted(
        (x, y, kind) for x, y in places(bed) for kind in range(len(bed[0][2]))
        if (x, y) not in taken and plain_held(bed, standing, (x, y), kind) >= bed[0][0]))


def plain_first_wrong(bed, row):
    """The place in the row of the first tile that is no growing; None where there is none."""
    standing = list(bed[2])
    for number, tile in enumerate(row):
        if not plain_grows(bed, standing, tile):
            return number
        standing.append(tile)
    return None


def all_standings(bed):
    """All standings to which rows lead, each with its growings."""
    found = {}
    ahead = [tuple(sorted(bed[2]))]
    while ahead:
        standing = ahead.pop()
        if standing not in found:
            found[standing] = plain_growings(bed, standing)
            ahead += [tuple(sorted(standing + (tile,))) for tile in found[standing]]
    return found


def all_ends(bed):
    return sorted(standing for standing, may in all_standings(bed).items() if not may)


def all_rows(bed):
    """All rows, the beginnings of others too."""
    found = []
    ahead = [()]
    while ahead:
        row = ahead.pop()
        found.append(row)
        ahead += [row + (tile,) for tile in plain_growings(bed, bed[2] + row)]
    return found


def drawn_row(chance, bed, all_growings=plain_growings, row=()):
    """A row that ends (and begins so), each tile drawn from the growings."""
    while True:
        may = all_growings(bed, bed[2] + row)
        if not may:
            return row
        row += (chance.choice(may),)


def waiting_places(bed, place, standings):
    """The places at which no row puts a tile without one at this place ahead of it."""
    spots = [{tile[:2] for tile in standing} for standing in standings]
    seeds = {tile[:2] for tile in bed[2]}
    ever = set().union(*spots) - seeds
    return tuple(sorted(q for q in ever if all(place in spot for spot in spots if q in spot)))


def is_number(thing):
    return type(thing) is int


def is_plain_tuple(thing, size, part):
    return type(thing) is tuple and len(thing) == size and all(part(each) for each in thing)


def plain_shows_verdict(bed, thing):
    """Point 12, clause by clause, by another hand."""
    if type(thing) is not tuple or len(thing) < 3 or type(thing[0]) is not str or type(thing[1]) is not tuple:
        return False
    word, row = thing[:2]
    if not all(is_plain_tuple(tile, 3, is_number) for tile in row) or plain_first_wrong(bed, row) is not None:
        return False
    end = tuple(sorted(bed[2] + row))
    if word == "parts" and len(thing) == 4:
        pair = thing[2:]
        if not all(is_plain_tuple(tile, 3, is_number) for tile in pair):
            return False
        return set(pair) <= set(plain_growings(bed, end)) and pair[0][:2] == pair[1][:2] and pair[0][2] < pair[1][2]
    if word != "sure" or len(thing) != 3 or plain_growings(bed, end) or type(thing[2]) is not tuple:
        return False
    return len(thing[2]) == len(row) and all(plain_shows_waits(bed, row, end, *pair) for pair in zip(row, thing[2]))


def plain_shows_waits(bed, row, end, tile, waits):
    if type(waits) is not tuple or not all(is_plain_tuple(place, 2, is_number) for place in waits):
        return False
    kinds = {(x, y): kind for x, y, kind in row}
    if list(waits) != sorted(set(waits)) or not set(waits) <= set(kinds) or tile[:2] not in waits:
        return False
    rest = [other for other in end if other[:2] not in waits]
    for place in waits:
        rivals = [kinds[place]] if place != tile[:2] else set(range(len(bed[0][2]))) - {tile[2]}
        if any(plain_held(bed, rest, place, kind) >= bed[0][0] for kind in rivals):
            return False
    return True
