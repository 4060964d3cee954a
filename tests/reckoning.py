"""A second way of reckoning, slow and plain, against which the program is held."""

import itertools

NORTH, EAST, SOUTH, WEST = 0, 1, 2, 3


def places(bed):
    return [(x, y) for x in range(bed[1][0]) for y in range(bed[1][1])]


def plain_sides_held(bed, standing, place, kind):
    """Tile by tile, by how it lies to the place."""
    sides = {(0, 1): (NORTH, SOUTH), (1, 0): (EAST, WEST), (0, -1): (SOUTH, NORTH), (-1, 0): (WEST, EAST)}
    found = set()
    for x, y, other in standing:
        way = (x - place[0], y - place[1])
        if way in sides:
            own, facing = sides[way]
            name = bed[0][2][kind][1 + own]
            if name and name == bed[0][2][other][1 + facing]:
                found.add(own)
    return tuple(sorted(found))


def plain_held(bed, standing, place, kind):
    strengths = dict(bed[0][1])
    return sum(strengths[bed[0][2][kind][1 + side]] for side in plain_sides_held(bed, standing, place, kind))


def plain_grows(bed, standing, tile):
    place, kind = tile[:2], tile[2]
    if place not in places(bed) or place in [other[:2] for other in standing] or kind not in range(len(bed[0][2])):
        return False
    return plain_held(bed, standing, place, kind) >= bed[0][0]


def plain_growings(bed, standing):
    taken = {(x, y) for x, y, kind in standing}
    return tuple(sorted(
        (x, y, kind) for x, y in places(bed) for kind in range(len(bed[0][2]))
        if (x, y) not in taken and plain_held(bed, standing, (x, y), kind) >= bed[0][0]))


def plain_first_wrong(bed, row):
    """The place in the row of the first tile that is no growing; None where there is none."""
    standing = list(bed[2])
    for number, tile in enumerate(row):
        if not plain_grows(bed, standing, tile):
            return number
        standing.append(tile)
    return None


def all_standings(bed):
    """All standings to which rows lead, each with its growings."""
    found = {}
    ahead = [tuple(sorted(bed[2]))]
    while ahead:
        standing = ahead.pop()
        if standing not in found:
            found[standing] = plain_growings(bed, standing)
            ahead += [tuple(sorted(standing + (tile,))) for tile in found[standing]]
    return found


def all_ends(bed):
    return sorted(standing for standing, may in all_standings(bed).items() if not may)


def all_rows(bed):
    """All rows, the beginnings of others too."""
    found = []
    ahead = [()]
    while ahead:
        row = ahead.pop()
        found.append(row)
        ahead += [row + (tile,) for tile in plain_growings(bed, bed[2] + row)]
    return found


def drawn_row(chance, bed, all_growings=plain_growings, row=()):
    """A row that ends (and begins so), each tile drawn from the growings."""
    while True:
        may = all_growings(bed, bed[2] + row)
        if not may:
            return row
        row += (chance.choice(may),)


def waiting_places(bed, place, standings):
    """The places at which no row puts a tile without one at this place ahead of it."""
    spots = [{tile[:2] for tile in standing} for standing in standings]
    seeds = {tile[:2] for tile in bed[2]}
    ever = set().union(*spots) - seeds
    return tuple(sorted(q for q in ever if all(place in spot for spot in spots if q in spot)))


def plain_waits(bed):
    """Of a sure bed, by all standings gone through."""
    standings = all_standings(bed)
    end = max(standings, key=len)
    return tuple((tile[:2], waiting_places(bed, tile[:2], standings)) for tile in end if tile not in bed[2])


def plain_first_sides(bed, end, waiting):
    """Point 14, the places that wait for each one being known."""
    seeds = [tile[:2] for tile in bed[2]]
    found = []
    for x, y, kind in sorted(set(end) - set(bed[2])):
        around = [(x, y + 1), (x + 1, y), (x, y - 1), (x - 1, y)]
        ahead = [near for near in around if near in seeds or (near in waiting and (x, y) in waiting[near])]
        behind = [near for near in around if near in waiting[(x, y)]]
        strength = plain_held(bed, [tile for tile in end if tile[:2] in ahead], (x, y), kind)
        sides = [tuple(sorted(around.index(near) for near in some)) for some in (ahead, behind)]
        found.append((x, y, kind, *sides, strength))
    return tuple(found)


def some_turns(may):
    """All turns of these growings, of which no two are at one place."""
    return [turn for size in range(1, len(may) + 1) for turn in itertools.combinations(may, size)]


def fewest_turns(bed):
    """Of a sure bed: how few turns lead to the end, of whatever growings."""
    level = {bed[2]}
    count = 0
    while all(plain_growings(bed, standing) for standing in level):
        level = {
            tuple(sorted(standing + turn))
            for standing in level for turn in some_turns(plain_growings(bed, standing))}
        count += 1
    return count


def plain_is_light(bed, row):
    """Point 16, of a tuple of tuples of three whole numbers, by another hand."""
    end = bed[2] + row
    if plain_first_wrong(bed, row) is not None or plain_growings(bed, end):
        return False
    upon = set()
    for number, (x, y, kind) in enumerate(row):
        ahead = bed[2] + row[:number]
        if plain_held(bed, ahead, (x, y), kind) > bed[0][0]:
            return False
        upon |= {(row[number], other) for other in ahead if plain_sides_held(bed, (other,), (x, y), kind)}
    for tile in row:
        rest = [other for other in end if (other, tile) not in upon]
        rivals = set(range(len(bed[0][2]))) - {tile[2]}
        if any(plain_held(bed, rest, tile[:2], kind) >= bed[0][0] for kind in rivals):
            return False
    return True


def plain_book(bed):
    return tuple(sorted(all_standings(bed), key=lambda standing: (len(standing), standing)))


def plain_sound(bed, standing):
    part = list(bed[2])
    more = standing
    while more:
        more = [tile for tile in standing if plain_grows(bed, part, tile)]
        part += more[-1:]
    return tuple(sorted(part))


def plain_walked(walker, word):
    letters, table = walker
    numbers = [letters.index(letter) for letter in word]
    state = 0
    for k in range(len(numbers) - 1, -1, -1):
        numbers[k], state = table[state][numbers[k]]
    return "".join(letters[number] for number in numbers), state


def are_one_piece(some):
    """Whether each of these places is led to from each by neighbours."""
    pieces = []
    for x, y in some:
        near = {(x, y), (x + 1, y), (x - 1, y), (x, y + 1), (x, y - 1)}
        beside = [piece for piece in pieces if piece & near]
        pieces = [piece for piece in pieces if not piece & near] + [set().union({(x, y)}, *beside)]
    return len(pieces) == 1


def is_number(thing):
    return type(thing) is int


def is_plain_tuple(thing, size, part):
    return type(thing) is tuple and len(thing) == size and all(part(each) for each in thing)


def plain_shows_verdict(bed, thing):
    """Point 12, clause by clause, by another hand."""
    if type(thing) is not tuple or len(thing) < 3 or type(thing[0]) is not str or type(thing[1]) is not tuple:
        return False
    word, row = thing[:2]
    if not all(is_plain_tuple(tile, 3, is_number) for tile in row) or plain_first_wrong(bed, row) is not None:
        return False
    end = tuple(sorted(bed[2] + row))
    if word == "parts" and len(thing) == 4:
        pair = thing[2:]
        if not all(is_plain_tuple(tile, 3, is_number) for tile in pair):
            return False
        return set(pair) <= set(plain_growings(bed, end)) and pair[0][:2] == pair[1][:2] and pair[0][2] < pair[1][2]
    if word != "sure" or len(thing) != 3 or plain_growings(bed, end) or type(thing[2]) is not tuple:
        return False
    return len(thing[2]) == len(row) and all(plain_shows_waits(bed, row, end, *pair) for pair in zip(row, thing[2]))


def plain_shows_waits(bed, row, end, tile, waits):
    if type(waits) is not tuple or not all(is_plain_tuple(place, 2, is_number) for place in waits):
        return False
    kinds = {(x, y): kind for x, y, kind in row}
    if list(waits) != sorted(set(waits)) or not set(waits) <= set(kinds) or tile[:2] not in waits:
        return False
    rest = [other for other in end if other[:2] not in waits]
    for place in waits:
        rivals = [kinds[place]] if place != tile[:2] else set(range(len(bed[0][2]))) - {tile[2]}
        if any(plain_held(bed, rest, place, kind) >= bed[0][0] for kind in rivals):
            return False
    return True
