"""Rough rows and prices, reckoned a second time, slow and plain; and bases with goals, always the same ones."""

import itertools

from tests.reckoning import is_number, is_plain_tuple, places, plain_held


def plain_step(bed, standing, tile):
    """What the tile is on the standing: "growing", "wrong" or None."""
    place, kind = tile[:2], tile[2]
    if place not in places(bed) or place in [other[:2] for other in standing] or kind not in range(len(bed[0][2])):
        return None
    strength = plain_held(bed, standing, place, kind)
    if strength >= bed[0][0]:
        return "growing"
    return "wrong" if strength >= 1 else None


def plain_steps(bed, base, row):
    """What each tile of the row is, up to the first that is neither, whose answer is None."""
    found = []
    for number, tile in enumerate(row):
        found.append(plain_step(bed, base + row[:number], tile))
        if found[-1] is None:
            break
    return found


def more_of(base, goal):
    return tuple(sorted(set(goal) - set(base)))


def price_by_all_orders(bed, base, some):
    """The fewest wrong ones in a rough row of just these, None where there is none."""
    counts = []
    for row in itertools.permutations(some):
        steps = plain_steps(bed, base, row)
        if None not in steps:
            counts.append(steps.count("wrong"))
    return min(counts, default=None)


def price_by_the_last(bed, base, some, known):
    """The same, for more tiles: by which of them comes last."""
    some = tuple(sorted(some))
    if not some:
        return 0
    if some not in known:
        counts = []
        for k, tile in enumerate(some):
            rest = some[:k] + some[k + 1:]
            step = plain_step(bed, base + rest, tile)
            price = None if step is None else price_by_the_last(bed, base, rest, known)
            if price is not None:
                counts.append(price + (step == "wrong"))
        known[some] = min(counts, default=None)
    return known[some]


def parts_in_order(tiles):
    """The parts of these, each at its number."""
    return [tuple(tile for k, tile in enumerate(tiles) if number // 2 ** k % 2) for number in range(2 ** len(tiles))]


def plain_prices(bed, base, goal):
    known = {}
    return tuple(price_by_the_last(bed, base, part, known) for part in parts_in_order(more_of(base, goal)))


def greatest_part(bed, base, goal):
    """All of goal to which rough rows from base lead."""
    part = list(base)
    more = True
    while more:
        more = [tile for tile in goal if plain_step(bed, part, tile)]
        part += more[:1]
    return tuple(sorted(part))


def plain_shows_least_wrong(bed, base, goal, thing):
    """Point 29, clause by clause, by another hand."""
    if type(thing) is not tuple or not thing or type(thing[0]) is not str:
        return False
    if thing[0] == "never" and len(thing) == 2:
        return plain_shows_never(bed, base, goal, thing[1])
    if thing[0] == "least" and len(thing) == 3:
        return plain_shows_row(bed, base, goal, *thing[1:]) and plain_shows_prices(bed, base, goal, thing[2])
    return False


def are_plain_tiles(thing):
    return type(thing) is tuple and all(is_plain_tuple(tile, 3, is_number) for tile in thing)


def plain_shows_never(bed, base, goal, part):
    if not are_plain_tiles(part) or part != tuple(sorted(set(part))) or not set(base) <= set(part) < set(goal):
        return False
    return all(plain_step(bed, part, tile) is None for tile in set(goal) - set(part))


def plain_shows_row(bed, base, goal, row, prices):
    if not are_plain_tiles(row) or sorted(row) != sorted(more_of(base, goal)):
        return False
    steps = plain_steps(bed, base, row)
    if None in steps or type(prices) is not tuple or len(prices) != 2 ** len(row):
        return False
    return prices[-1] is not None and prices[-1] == steps.count("wrong")


def plain_shows_prices(bed, base, goal, prices):
    tiles = more_of(base, goal)
    if not all(price is None or (is_number(price) and price >= 0) for price in prices) or prices[0] != 0:
        return False
    parts = parts_in_order(tiles)
    for number, part in enumerate(parts):
        if prices[number] is not None:
            for tile in set(tiles) - set(part):
                step = plain_step(bed, base + part, tile)
                behind = prices[parts.index(tuple(sorted(part + (tile,))))]
                if step and (behind is None or behind - prices[number] > (step == "wrong")):
                    return False
    return True


def all_steps(bed, standing):
    """All growings and wrong ones."""
    spots = [spot for spot in places(bed) if spot not in [tile[:2] for tile in standing]]
    tiles = [spot + (kind,) for spot in spots for kind in range(len(bed[0][2]))]
    return [tile for tile in tiles if plain_step(bed, standing, tile)]


def drawn_goal(chance, bed, base, size):
    """The base and so many more tiles, if they can be; most of them growings and wrong ones when they came."""
    goal = base
    for step in range(size):
        free = [spot for spot in places(bed) if spot not in [tile[:2] for tile in goal]]
        may = all_steps(bed, goal)
        if may and chance.randrange(12):
            goal += (chance.choice(may),)
        elif free:
            goal += (chance.choice(free) + (chance.randrange(len(bed[0][2])),),)
    return tuple(sorted(goal))


def drawn_base(chance, bed):
    """The seed, what grew or went wrong on it, or a part of that, which may lack seed's tiles."""
    way = chance.randrange(3)
    if way == 0:
        return bed[2]
    whole = drawn_goal(chance, bed, bed[2], chance.randint(0, 5))
    if way == 1:
        return whole
    return tuple(sorted(chance.sample(whole, chance.randint(min(1, len(whole)), len(whole)))))


def drawn_cases(chance, beds, most):
    """(bed, base, goal), of none to so many more tiles."""
    found = []
    for number, bed in enumerate(beds):
        base = drawn_base(chance, bed)
        found.append((bed, base, drawn_goal(chance, bed, base, number % (most + 1))))
    return found
