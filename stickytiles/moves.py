"""Beds and standings turned, mirrored, reordered and named otherwise (point 6)."""


def with_kinds(house, kinds):
    return (house[0], house[1], tuple(kinds))


def turned_standing(bed, standing):
    high = bed[1][1]
    return tuple(sorted([(high - 1 - y, x, kind) for x, y, kind in standing]))


def turned(bed):
    house = bed[0]
    floor = bed[1]
    kinds = [(face, east, south, west, north) for face, north, east, south, west in house[2]]
    return (with_kinds(house, kinds), (floor[1], floor[0]), turned_standing(bed, bed[2]))


def mirrored_standing(bed, standing):
    wide = bed[1][0]
    return tuple(sorted([(wide - 1 - x, y, kind) for x, y, kind in standing]))


def mirrored(bed):
    house = bed[0]
    kinds = [(face, north, west, south, east) for face, north, east, south, west in house[2]]
    return (with_kinds(house, kinds), bed[1], mirrored_standing(bed, bed[2]))


def reordered_standing(standing, order):
    # The order tells the old number of each new one; tiles are called by the new one of their old.
    numbers = {}
    for new, old in enumerate(order):
        numbers[old] = new
    return tuple(sorted([(x, y, numbers[kind]) for x, y, kind in standing]))


def reordered(bed, order):
    house = bed[0]
    kinds = [house[2][old] for old in order]
    return (with_kinds(house, kinds), bed[1], reordered_standing(bed[2], order))


def renamed_kind(kind, called):
    return (kind[0], called[kind[1]], called[kind[2]], called[kind[3]], called[kind[4]])


def renamed(bed, names):
    house = bed[0]
    called = {"": ""}
    sticks = []
    for stick, name in zip(house[1], names):
        called[stick[0]] = name
        sticks.append((name, stick[1]))
    kinds = [renamed_kind(kind, called) for kind in house[2]]
    return ((house[0], tuple(sorted(sticks)), tuple(kinds)), bed[1], bed[2])
