"""Who looks at prices: whether they show that no rough row has fewer wrong ones, asked of anything (point 29).

Each question looks at a thing's kind ahead of its worth: so nothing that is handed in can make it fail.
"""

from stickytiles.beds import is_standing, is_tile, is_tuple
from stickytiles.errors import NoGrowing
from stickytiles.holding import kinds_by_place
from stickytiles.prices import more_tiles, steps_from
from stickytiles.verdictlooks import is_word
from stickytiles.wrongs import step_price, wrong_ones_from


def shows_never(bed, base, goal, thing):
    if not is_standing(bed, thing) or thing == goal:
        return False
    if not all([tile in thing for tile in base]) or not all([tile in goal for tile in thing]):
        return False
    strengths = dict(bed[0][1])
    standing_kinds = kinds_by_place(thing)
    # A tile that stands there already is neither a growing nor a wrong one.
    return all([step_price(bed, strengths, standing_kinds, tile) is None for tile in goal])


def count_of_wrong_ones(bed, base, tiles, thing):
    # None where it is no rough row from base that puts just these tiles.
    if not isinstance(thing, tuple) or not all([is_tile(bed, part) for part in thing]):
        return None
    if tuple(sorted(thing)) != tiles:
        return None
    try:
        found = wrong_ones_from(bed, base, thing)
    except NoGrowing:
        return None
    return len(found)


def is_price(thing):
    return thing is None or (isinstance(thing, int) and not isinstance(thing, bool) and thing >= 0)


def are_prices(tiles, thing):
    return is_tuple(thing, 1 << len(tiles)) and all([is_price(part) for part in thing])


def keeps_to_steps(prices, part, steps):
    for number, price in steps:
        behind = prices[part | (1 << number)]
        if behind is None or behind > prices[part] + price:
            return False
    return True


def shows_least(bed, base, goal, row, prices):
    tiles = more_tiles(base, goal)
    count = count_of_wrong_ones(bed, base, tiles, row)
    if count is None or not are_prices(tiles, prices) or prices[0] != 0 or prices[-1] != count:
        return False
    strengths = dict(bed[0][1])
    for part, price in enumerate(prices):
        if price is not None and not keeps_to_steps(prices, part, steps_from(bed, strengths, base, tiles, part)):
            return False
    return True


def shows_least_wrong(bed, base, goal, thing):
    if is_tuple(thing, 2) and is_word(thing[0], "never"):
        return shows_never(bed, base, goal, thing[1])
    if is_tuple(thing, 3) and is_word(thing[0], "least"):
        return shows_least(bed, base, goal, thing[1], thing[2])
    return False
