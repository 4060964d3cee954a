"""The least number of wrong tiles that lead from one standing to another, with the prices of all parts (point 28)."""

from stickytiles.holding import kinds_by_place
from stickytiles.wrongs import step_price


def more_tiles(base, goal):
    there = kinds_by_place(base)
    return tuple([tile for tile in goal if tile[:2] not in there])


def chosen(tiles, part):
    # The part's number has a bit for each of the tiles.
    return tuple([tile for number, tile in enumerate(tiles) if (part >> number) & 1 == 1])


def steps_from(bed, strengths, base, tiles, part):
    # (number of a further tile, price) for each that is a growing or a wrong one there.
    standing_kinds = kinds_by_place(base + chosen(tiles, part))
    found = []
    for number, tile in enumerate(tiles):
        price = step_price(bed, strengths, standing_kinds, tile)
        if price is not None:
            found.append((number, price))
    return found


def all_prices(bed, base, tiles):
    # For each part None, or (price, the tile put last).
    strengths = dict(bed[0][1])
    count = 1 << len(tiles)
    prices = [None for part in range(count)]
    prices[0] = (0, None)
    # A part's number is less than that of all that it leads to: so its own price is known when its turn comes.
    for part in range(count):
        if prices[part] is not None:
            for number, price in steps_from(bed, strengths, base, tiles, part):
                behind = part | (1 << number)
                cost = prices[part][0] + price
                if prices[behind] is None or prices[behind][0] > cost:
                    prices[behind] = (cost, number)
    return prices


def row_to_all(tiles, prices):
    part = len(prices) - 1
    row = []
    while part > 0:
        number = prices[part][1]
        row.append(tiles[number])
        part = part - (1 << number)
    return tuple(reversed(row))


def least_wrong(bed, base, goal):
    tiles = more_tiles(base, goal)
    prices = all_prices(bed, base, tiles)
    if prices[-1] is None:
        # Two parts that can be come to lead to both together: so the one of the greatest number has all the others.
        greatest = max([part for part, price in enumerate(prices) if price is not None])
        return ("never", tuple(sorted(base + chosen(tiles, greatest))))
    told = tuple([None if price is None else price[0] for price in prices])
    return ("least", row_to_all(tiles, prices), told)
