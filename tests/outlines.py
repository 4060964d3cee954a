"""Shapes for the tests, some by hand, some drawn (always the same ones)."""

import itertools

RING = ((1, 1), (1, 2), (1, 3), (2, 1), (2, 3), (3, 1), (3, 2), (3, 3))
GREAT_RING = tuple(sorted([(x, y) for x in range(3, 7) for y in range(2, 6) if x in (3, 6) or y in (2, 5)]))
STAR = ((2, 5), (3, 4), (3, 5), (3, 6), (4, 5))
WINDING = ((1, 1), (1, 2), (1, 3), (2, 3), (3, 1), (3, 2), (3, 3), (4, 1), (5, 1), (5, 2), (5, 3), (6, 3))


def box(wide, high):
    return tuple((x, y) for x in range(1, wide + 1) for y in range(1, high + 1))


def drawn_shape(chance, size):
    """Grown place by place, at any of the neighbours."""
    found = [(chance.randint(1, 6), chance.randint(1, 6))]
    while len(found) < size:
        x, y = chance.choice(found)
        near = chance.choice(((x, y + 1), (x + 1, y), (x, y - 1), (x - 1, y)))
        if near not in found and 1 <= near[0] <= 6 and 1 <= near[1] <= 6:
            found.append(near)
    return tuple(sorted(found))


def parts_of_a_square(side, at=(1, 1)):
    spots = [(at[0] + x, at[1] + y) for x in range(side) for y in range(side)]
    return [some for size in range(1, len(spots) + 1) for some in itertools.combinations(spots, size)]


def all_shapes(size, most=6):
    """All shapes of so many places, wherever they lie, their numbers at most so great."""
    level = {((x, y),) for x in range(1, most + 1) for y in range(1, most + 1)}
    for step in range(size - 1):
        level = {
            tuple(sorted(shape + (near,)))
            for shape in level for x, y in shape for near in ((x, y + 1), (x + 1, y), (x, y - 1), (x - 1, y))
            if near not in shape and 1 <= min(near) and max(near) <= most}
    return sorted(level)


def in_the_corner(shape):
    """Whether it lies as far west and south as can be."""
    return min(x for x, y in shape) == 1 and min(y for x, y in shape) == 1


def shapes_in_the_corner(size):
    return [shape for shape in all_shapes(size, size) if in_the_corner(shape)]


def moved_shape(shape, east, north):
    return tuple((x + east, y + north) for x, y in shape)
