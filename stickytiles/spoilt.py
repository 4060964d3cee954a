"""What is sound in a spoilt standing, how it is mended, and beds with places torn out (points 19 and 20)."""

from stickytiles.rows import first_end, row_among
from stickytiles.verdicts import sure_verdict


def with_seed(bed, tiles):
    return (bed[0], bed[1], tuple(sorted(tiles)))


def sound(bed, standing):
    return tuple(sorted(bed[2] + row_among(bed, standing)))


def mended(bed, standing):
    part = sound(bed, standing)
    off = tuple([tile for tile in standing if tile not in part])
    return (off, first_end(with_seed(bed, part))[0])


def torn(bed, places):
    # The seed's tiles are none of the row's: so they stay, whatever the places are.
    row = sure_verdict(bed)[1]
    left = tuple([tile for tile in row if tile[:2] not in places])
    return with_seed(bed, bed[2] + left)
