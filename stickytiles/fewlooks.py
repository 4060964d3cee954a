"""Who looks at how few kinds make a shape: whether papers show that no fewer do, asked of anything (point 25).

Each question looks at a thing's kind ahead of its worth: so nothing that is handed in can make it fail.
"""

from stickytiles.beds import is_tuple
from stickytiles.holding import growings
from stickytiles.rows import grown, is_row
from stickytiles.shapes import makes
from stickytiles.verdictlooks import is_word
from stickytiles.ways import count_of_classes, freest, is_way, ways_of


def shows_against(bed, shape, thing):
    if not is_row(bed, thing):
        return False
    standing = grown(bed, thing)
    places = [tile[:2] for tile in standing]
    if any([place not in shape for place in places]):
        return True
    found = [tile[:2] for tile in growings(bed, standing)]
    if not found:
        return any([place not in places for place in shape])
    return len(set(found)) < len(found)


def beds_of_fewer(shape, enough, count):
    # (way, its freest bed) of all ways of fewer classes that can be, in the papers' order.
    found = []
    for fewer in range(1, count):
        for way in ways_of(shape, enough, fewer):
            bed = freest(shape, way, enough)
            if bed is not None:
                found.append((way, bed))
    return found


def shows_paper(shape, enough, way, bed, thing):
    # The way is looked at by itself ahead of being held against the due one, since True is no 1.
    if not is_tuple(thing, 2) or not is_way(shape, enough, thing[0]) or thing[0] != way:
        return False
    return shows_against(bed, shape, thing[1])


def shows_papers(shape, enough, count, thing):
    due = beds_of_fewer(shape, enough, count)
    if not is_tuple(thing, len(due)):
        return False
    for pair, paper in zip(due, thing):
        if not shows_paper(shape, enough, pair[0], pair[1], paper):
            return False
    return True


def shows_least_kinds(shape, enough, thing):
    if not is_tuple(thing, 3) or not is_word(thing[0], "least") or not is_way(shape, enough, thing[1]):
        return False
    bed = freest(shape, thing[1], enough)
    if bed is None or not makes(bed, shape):
        return False
    return shows_papers(shape, enough, count_of_classes(thing[1][0]), thing[2])
