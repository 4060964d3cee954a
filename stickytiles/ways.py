"""Ways to make a shape by classes of places, and the freest bed of each (point 24)."""

from stickytiles.beds import is_tuple, is_whole
from stickytiles.holding import places_around
from stickytiles.naming import house_of, numbered
from stickytiles.shapes import shape_floor


def neighbours(shape):
    # (number of a place, side, number of the place there), each two once: north lies ahead of east, as pairs rise.
    found = []
    for number, place in enumerate(shape):
        for side, near in enumerate(places_around(place)):
            if near > place and near in shape:
                found.append((number, side, shape.index(near)))
    return found


def facing_sides(shape, classes):
    # For each two neighbours the two sides of classes, (class, side), that face one another.
    return [((classes[one], side), (classes[other], (side + 2) % 4)) for one, side, other in neighbours(shape)]


def pieces_of(pairs, bonds):
    # Each side that is joined with another, and one of those it is joined with, the same for all of them.
    pieces = {}
    for pair, bond in zip(pairs, bonds):
        if bond > 0:
            old = pieces.setdefault(pair[1], pair[1])
            new = pieces.setdefault(pair[0], pair[0])
            for side in list(pieces):
                if pieces[side] == old:
                    pieces[side] = new
    return pieces


def are_joined(pieces, pair):
    return pair[0] in pieces and pair[1] in pieces and pieces[pair[0]] == pieces[pair[1]]


def piece_strengths(pairs, bonds, pieces):
    # None where the way can't be. Among joined sides some bond is above 0: so one of 0 is unlike that, too.
    strengths = {}
    for pair, bond in zip(pairs, bonds):
        if are_joined(pieces, pair) and strengths.setdefault(pieces[pair[0]], bond) != bond:
            return None
    return strengths


def count_of_classes(classes):
    return max(classes) + 1


def freest(shape, way, enough):
    classes = way[0]
    pairs = facing_sides(shape, classes)
    pieces = pieces_of(pairs, way[1])
    strengths = piece_strengths(pairs, way[1], pieces)
    if strengths is None:
        return None
    names = {}
    named_strengths = {}
    for number, piece in enumerate(strengths):
        names[piece] = numbered("j", number)
        named_strengths[names[piece]] = strengths[piece]
    kinds = []
    for number in range(count_of_classes(classes)):
        kinds.append(("",) + tuple([names.get(pieces.get((number, side)), "") for side in range(4)]))
    seed = shape[way[2]] + (classes[way[2]],)
    return (house_of(enough, named_strengths, kinds), shape_floor(shape), (seed,))


def all_classes(size):
    # Rising, since each is made longer by the least number first.
    found = [()]
    for place in range(size):
        longer = []
        for classes in found:
            for number in range(max(classes, default=-1) + 2):
                longer.append(classes + (number,))
        found = longer
    return found


def all_bonds(size, most):
    found = [()]
    for pair in range(size):
        longer = []
        for bonds in found:
            for bond in range(most + 1):
                longer.append(bonds + (bond,))
        found = longer
    return found


def ways_of(shape, enough, count):
    # All ways of so many classes, as (classes, bonds, seed) rises, whether they can be or not.
    every_bonds = all_bonds(len(neighbours(shape)), enough)
    found = []
    for classes in all_classes(len(shape)):
        if count_of_classes(classes) == count:
            for bonds in every_bonds:
                found.extend([(classes, bonds, seed) for seed in range(len(shape))])
    return found


def are_classes(shape, thing):
    if not is_tuple(thing, len(shape)):
        return False
    following = 0
    for number in thing:
        if not is_whole(number, 0, following):
            return False
        following = max(following, number + 1)
    return True


def are_bonds(shape, enough, thing):
    return is_tuple(thing, len(neighbours(shape))) and all([is_whole(bond, 0, enough) for bond in thing])


def is_way(shape, enough, thing):
    if not is_tuple(thing, 3) or not are_classes(shape, thing[0]) or not are_bonds(shape, enough, thing[1]):
        return False
    return is_whole(thing[2], 0, len(shape) - 1)
