"""Ways of shapes, reckoned a second time, slow and plain; and ways drawn, always the same ones."""

import itertools

from tests.reckoning import is_number, is_plain_tuple, plain_first_wrong, plain_growings

SIDES = {(0, 1): 0, (1, 0): 1, (0, -1): 2, (-1, 0): 3}


def plain_pairs(shape):
    """All two neighbours, as pairs of places rise."""
    return [
        (one, other) for one, other in itertools.combinations(sorted(shape), 2)
        if abs(one[0] - other[0]) + abs(one[1] - other[1]) == 1]


def plain_facing(shape, classes):
    """For each two neighbours the two sides, (class, side), that face one another."""
    called = dict(zip(shape, classes))
    found = []
    for one, other in plain_pairs(shape):
        side = SIDES[(other[0] - one[0], other[1] - one[1])]
        back = SIDES[(one[0] - other[0], one[1] - other[1])]
        found.append(((called[one], side), (called[other], back)))
    return found


def plain_groups(shape, way):
    """All sides that are joined with another, in groups of those joined with one another."""
    groups = [{*pair} for pair, bond in zip(plain_facing(shape, way[0]), way[1]) if bond > 0]
    for step in range(len(groups)):
        for one, other in itertools.combinations(groups, 2):
            if one & other:
                groups = [group for group in groups if group not in (one, other)] + [one | other]
                break
    return groups


def plain_group_of(groups, side):
    return next((group for group in groups if side in group), None)


def reasons_against(shape, way):
    """By which of the two reasons of point 24 it can't be."""
    groups = plain_groups(shape, way)
    facing = list(zip(plain_facing(shape, way[0]), way[1]))
    found = []
    if any(bond == 0 and any({*pair} <= group for group in groups) for pair, bond in facing):
        found.append("nought")
    if any(len({bond for pair, bond in facing if bond and {*pair} <= group}) > 1 for group in groups):
        found.append("unlike")
    return found


def can_be(shape, way):
    return not reasons_against(shape, way)


def numbered_anew(some):
    """Called by numbers, one that comes first the next from 0."""
    called = []
    for thing in some:
        if thing not in called:
            called.append(thing)
    return tuple(called.index(thing) for thing in some)


def is_plain_way(shape, enough, thing):
    if type(thing) is not tuple or len(thing) != 3:
        return False
    classes, bonds, seed = thing
    if not is_plain_tuple(classes, len(shape), is_number) or numbered_anew(classes) != classes:
        return False
    if not is_plain_tuple(bonds, len(plain_pairs(shape)), is_number) or not set(bonds) <= set(range(enough + 1)):
        return False
    return is_number(seed) and 0 <= seed < len(shape)


def plain_ways(shape, enough):
    """All ways, by fewer classes, then as they rise, whether they can be or not."""
    size = len(shape)
    every_classes = [some for some in itertools.product(range(size), repeat=size) if numbered_anew(some) == some]
    every_bonds = itertools.product(range(enough + 1), repeat=len(plain_pairs(shape)))
    ways = itertools.product(every_classes, every_bonds, range(size))
    return sorted(ways, key=lambda way: (len(set(way[0])), way))


def ways_of_fewer(shape, enough, count):
    return [way for way in plain_ways(shape, enough) if len(set(way[0])) < count and can_be(shape, way)]


def plain_makes(bed, shape):
    """All standings gone through, till one strays from the shape: what stands there stays."""
    if len(bed[2]) != 1:
        return False
    seen = set()
    ends = set()
    ahead = [bed[2]]
    while ahead:
        standing = ahead.pop()
        if standing in seen:
            continue
        seen.add(standing)
        if not {tile[:2] for tile in standing} <= set(shape):
            return False
        may = plain_growings(bed, standing)
        if not may:
            ends.add(standing)
        ahead += [tuple(sorted(standing + (tile,))) for tile in may]
    return [{tile[:2] for tile in end} for end in ends] == [set(shape)]


def rows_reasons(bed, shape, row):
    """By which of the three of point 25 the row shows that the bed doesn't make the shape."""
    if plain_first_wrong(bed, row) is not None:
        return []
    spots = {tile[:2] for tile in bed[2] + row}
    may = plain_growings(bed, bed[2] + row)
    found = []
    if spots - set(shape):
        found.append("strays")
    if not may and set(shape) - spots:
        found.append("short")
    if len({tile[:2] for tile in may}) < len(may):
        found.append("forks")
    return found


def plain_against(bed, shape, row):
    return bool(rows_reasons(bed, shape, row))


def way_by_names(shape, classes, sides, strengths, enough, seed):
    """The way of kinds with these sides, {(class, side): name}: it can be, since they show it."""
    bonds = []
    for one, other in plain_facing(shape, classes):
        alike = sides[one] == sides[other] and sides[one] != ""
        bonds.append(min(strengths[sides[one]], enough) if alike else 0)
    return (classes, tuple(bonds), seed)


def drawn_classes(chance, size):
    most = chance.randint(1, size)
    return numbered_anew([chance.randrange(most) for place in range(size)])


def drawn_way_that_can_be(chance, shape, enough):
    classes = drawn_classes(chance, len(shape))
    strengths = {name: chance.randint(1, enough) for name in "abcdefgh"[:chance.randint(1, 8)]}
    some = list(strengths) * 2 + [""]
    sides = {(number, side): chance.choice(some) for number in classes for side in range(4)}
    return way_by_names(shape, classes, sides, strengths, enough, chance.randrange(len(shape)))


def drawn_way(chance, shape, enough):
    bonds = tuple(chance.randint(0, enough) for pair in plain_pairs(shape))
    return (drawn_classes(chance, len(shape)), bonds, chance.randrange(len(shape)))


def way_of_bed(bed, shape, end):
    """Classes by the kinds that stand at the end, bonds by the sticks, enough at most."""
    kinds = {tile[:2]: tile[2] for tile in end}
    classes = numbered_anew([kinds[place] for place in shape])
    sides = {
        (number, side): bed[0][2][kinds[place]][1 + side]
        for number, place in zip(classes, shape) for side in range(4)}
    return way_by_names(shape, classes, sides, dict(bed[0][1]), bed[0][0], shape.index(bed[2][0][:2]))


def plain_shows_least_kinds(shape, enough, thing):
    """Point 25, clause by clause, by another hand, for things whose ways have a freest bed told."""
    if type(thing) is not tuple or len(thing) != 3 or type(thing[0]) is not str or thing[0] != "least":
        return False
    word, way, papers = thing
    if not is_plain_way(shape, enough, way) or not can_be(shape, way):
        return False
    if not plain_makes(plain_freest(shape, way, enough), shape):
        return False
    due = ways_of_fewer(shape, enough, len(set(way[0])))
    if type(papers) is not tuple or len(papers) != len(due):
        return False
    return all(plain_shows_paper(shape, enough, *pair) for pair in zip(due, papers))


def plain_shows_paper(shape, enough, way, paper):
    if type(paper) is not tuple or len(paper) != 2 or not is_plain_way(shape, enough, paper[0]) or paper[0] != way:
        return False
    row = paper[1]
    if type(row) is not tuple or not all(is_plain_tuple(tile, 3, is_number) for tile in row):
        return False
    return plain_against(plain_freest(shape, way, enough), shape, row)


def plain_freest(shape, way, enough):
    """The freest bed of a way that can be, by another hand."""
    groups = plain_groups(shape, way)
    called = ["name" + "abcdefghijklmnopqrstuvwxyz"[k] for k in range(len(groups))]
    sticks = []
    for name, group in zip(called, groups):
        bonds = [bond for pair, bond in zip(plain_facing(shape, way[0]), way[1]) if bond and {*pair} <= group]
        sticks.append((name, bonds[0]))
    kinds = []
    for number in range(len(set(way[0]))):
        sides = [[name for name, group in zip(called, groups) if (number, side) in group] for side in range(4)]
        kinds.append(("", *["".join(some) for some in sides]))
    floor = (max(x for x, y in shape) + 2, max(y for x, y in shape) + 2)
    return ((enough, tuple(sticks), tuple(kinds)), floor, (shape[way[2]] + (way[0][way[2]],),))
