"""What is a house, a standing, a bed (points 4 and 5): asked of anything, answered with True or False.

Each question looks at a thing's kind ahead of its worth: so nothing that is handed in can make it fail.
"""

LETTERS = "abcdefghijklmnopqrstuvwxyz"
FACE_SIGNS = "abcdefghijklmnopqrstuvwxyz0123456789"


def is_whole(thing, least, most):
    return isinstance(thing, int) and not isinstance(thing, bool) and least <= thing <= most


def is_tuple(thing, size):
    return isinstance(thing, tuple) and len(thing) == size


def rises(parts):
    return all([one < other for one, other in zip(parts, parts[1:])])


def is_name(thing):
    return isinstance(thing, str) and 1 <= len(thing) <= 8 and all([sign in LETTERS for sign in thing])


def is_stick(thing):
    return is_tuple(thing, 2) and is_name(thing[0]) and is_whole(thing[1], 1, 4)


def are_sticks(thing):
    if not isinstance(thing, tuple) or not all([is_stick(part) for part in thing]):
        return False
    return rises([stick[0] for stick in thing])


def is_face(thing):
    # The length is asked too: "ab" is in the row of signs, but is no sign.
    return isinstance(thing, str) and len(thing) <= 1 and thing in FACE_SIGNS


def is_side(thing, names):
    return isinstance(thing, str) and (thing == "" or thing in names)


def is_kind(thing, names):
    return is_tuple(thing, 5) and is_face(thing[0]) and all([is_side(part, names) for part in thing[1:]])


def is_house(thing):
    if not is_tuple(thing, 3) or not is_whole(thing[0], 1, 4) or not are_sticks(thing[1]):
        return False
    kinds = thing[2]
    if not isinstance(kinds, tuple) or len(kinds) == 0:
        return False
    names = dict(thing[1])
    return all([is_kind(part, names) for part in kinds])


def is_floor(thing):
    return is_tuple(thing, 2) and is_whole(thing[0], 1, 12) and is_whole(thing[1], 1, 12)


def is_place(bed, thing):
    floor = bed[1]
    return is_tuple(thing, 2) and is_whole(thing[0], 0, floor[0] - 1) and is_whole(thing[1], 0, floor[1] - 1)


def is_tile(bed, thing):
    kinds = bed[0][2]
    return is_tuple(thing, 3) and is_place(bed, thing[:2]) and is_whole(thing[2], 0, len(kinds) - 1)


def is_standing(bed, thing):
    if not isinstance(thing, tuple) or not all([is_tile(bed, part) for part in thing]):
        return False
    # Places that rise are unlike, and tiles at unlike places rise as their places do.
    return rises([tile[:2] for tile in thing])


def is_bed(thing):
    if not is_tuple(thing, 3) or not is_house(thing[0]) or not is_floor(thing[1]):
        return False
    # What a standing must be hangs on the house and the floor alone, which are known to be sound here.
    return is_standing(thing, thing[2])
