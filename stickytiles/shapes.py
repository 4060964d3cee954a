"""Shapes, and beds that make them (point 23)."""

from stickytiles.beds import is_tuple, is_whole, rises
from stickytiles.holding import places_around
from stickytiles.naming import house_of, numbered
from stickytiles.verdicts import verdict


def is_spot(thing):
    return is_tuple(thing, 2) and is_whole(thing[0], 1, 6) and is_whole(thing[1], 1, 6)


def steps_through(places):
    # From the first place to all that it leads to by neighbours, to each of them once: (place, side, next place).
    steps = []
    reached = {places[0]: True}
    ahead = [places[0]]
    while ahead:
        place = ahead.pop()
        for side, near in enumerate(places_around(place)):
            if near in places and near not in reached:
                reached[near] = True
                steps.append((place, side, near))
                ahead.append(near)
    return steps


def is_shape(thing):
    if not isinstance(thing, tuple) or not 1 <= len(thing) <= 12:
        return False
    if not all([is_spot(part) for part in thing]) or not rises(thing):
        return False
    return len(steps_through(thing)) == len(thing) - 1


def makes(bed, shape):
    if len(bed[2]) != 1:
        return False
    told = verdict(bed)
    return told[0] == "sure" and tuple(sorted([tile[:2] for tile in bed[2] + told[1]])) == shape


def shape_floor(shape):
    return (max([place[0] for place in shape]) + 2, max([place[1] for place in shape]) + 2)


def shape_bed(shape):
    # A kind for each place, and a name of its own for each step: so each kind can stand at its own place alone.
    sides = {}
    for place in shape:
        sides[place] = ["", "", "", ""]
    strengths = {}
    for number, step in enumerate(steps_through(shape)):
        name = numbered("e", number)
        strengths[name] = 1
        sides[step[0]][step[1]] = name
        sides[step[2]][(step[1] + 2) % 4] = name
    kinds = [("",) + tuple(sides[place]) for place in shape]
    return (house_of(1, strengths, kinds), shape_floor(shape), (shape[0] + (0,),))


def along_name(number):
    return numbered("a", number)


def up_name(number):
    return numbered("u", number)


def box_kinds(wide, high):
    # By 1 and 1 the last kind fills what lies between the south row and the west column; beyond them it is held by 1.
    across = numbered("f", 0)
    upon = numbered("f", 1)
    kinds = [("", up_name(1), along_name(1), "", "")]
    for number in range(1, wide):
        kinds.append(("", upon, along_name(number + 1), "", along_name(number)))
    for number in range(1, high):
        kinds.append(("", up_name(number + 1), across, up_name(number), ""))
    kinds.append(("", upon, across, upon, across))
    return kinds


def box_bed(wide, high):
    strengths = {numbered("f", 0): 1, numbered("f", 1): 1}
    for number in range(1, wide + 1):
        strengths[along_name(number)] = 2
    for number in range(1, high + 1):
        strengths[up_name(number)] = 2
    return (house_of(2, strengths, box_kinds(wide, high)), (wide + 2, high + 2), ((1, 1, 0),))
