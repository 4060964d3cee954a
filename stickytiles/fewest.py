"""How few kinds make a small shape, with papers that no fewer do (point 25)."""

from stickytiles.keeper import Grow
from stickytiles.verdicts import verdict
from stickytiles.ways import freest, ways_of


def row_against(bed, shape):
    # A row that shows that the bed doesn't make the shape; None where it does.
    keeper = Grow(bed)
    tile = keeper.on()
    while tile is not None:
        # Looked for at each step, since what strays from the shape may fill the whole floor.
        if tile[:2] not in shape:
            return keeper.row()
        tile = keeper.on()
    told = verdict(bed)
    if told[0] == "parts" or len(bed[2] + told[1]) < len(shape):
        return told[1]
    return None


def tried(shape, enough, count):
    # (the first way of so many classes that makes the shape, or None; papers of those ahead of it)
    papers = []
    for way in ways_of(shape, enough, count):
        bed = freest(shape, way, enough)
        if bed is not None:
            row = row_against(bed, shape)
            if row is None:
                return (way, papers)
            papers.append((way, row))
    return (None, papers)


def least_kinds(shape, enough):
    papers = []
    count = 1
    found = tried(shape, enough, count)
    # As many classes as places make each shape: so the loop comes to its end.
    while found[0] is None:
        papers.extend(found[1])
        count += 1
        found = tried(shape, enough, count)
    return ("least", found[0], tuple(papers))
