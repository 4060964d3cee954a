"""Beds and things for the tests."""

import random

STICKS = (("a", 1), ("b", 2), ("c", 3), ("d", 4))
# Kinds 1, 3 and 4 stick to kind 0 on every side of it: by 1 north, 2 east, 3 south, 4 west.
KINDS = (
    ("s", "a", "b", "c", "d"),
    ("", "c", "d", "a", "b"),
    ("0", "", "", "", ""),
    ("z", "c", "d", "a", "b"),
    ("", "c", "d", "a", "b"),
    ("q", "", "", "a", ""),
)
HOUSE = (2, STICKS, KINDS)
BED = (HOUSE, (3, 3), ((1, 1, 0),))
# Wider than high, with nothing alike on two sides: a wrong turn shows.
LONG_BED = (HOUSE, (4, 2), ((0, 0, 0), (0, 1, 3), (2, 1, 1), (3, 0, 5)))
LONG_STANDING = ((0, 1, 2), (1, 0, 4), (3, 1, 0))

LETTERS = "abcdefghijklmnopqrstuvwxyz"


class Prickly:
    """Fails at whatever is asked of it but what it is."""

    def fail(self, *others):
        raise RuntimeError("asked")

    __eq__ = __ne__ = __lt__ = __le__ = __gt__ = __ge__ = fail
    __hash__ = __len__ = __iter__ = __bool__ = __getitem__ = __contains__ = __index__ = __int__ = fail


def nested(depth, wrap, core):
    thing = core
    for step in range(depth):
        thing = wrap(thing)
    return thing


def junk():
    """Things that may stand nowhere in a bed, and are none."""
    return [
        None, True, False, -1, 13, 144, 10 ** 50, -(10 ** 50),
        "A", "ab1", "abcdefghi", "a b", " ", "\n", "-", "\u00e4", "\u00aa", "\u0663", "x" * 9000,
        b"a", bytearray(b"a"), [], ["a"], [1, 2], {}, {"a": 1}, set(), {"a"}, frozenset(),
        object(), Prickly(), int, str, len, lambda: 1, range(3), iter((1, 2)), ValueError("a"),
        (None,), ((),), (1,), ("a",), (0, 0, 0, 0), (Prickly(), Prickly()), (Prickly(),) * 3, (Prickly(),) * 5,
        nested(58, lambda thing: (thing,), ()),
        nested(58, lambda thing: (thing, thing, thing), ()),
        nested(58, lambda thing: [thing], 1),
        nested(58, lambda thing: {"a": thing}, "a"),
    ]


def paths(thing):
    """The way to each part of a nested tuple, the whole one too."""
    found = [()]
    if isinstance(thing, tuple):
        for k, part in enumerate(thing):
            found += [(k,) + path for path in paths(part)]
    return found


def part_at(thing, path):
    for k in path:
        thing = thing[k]
    return thing


def replaced(thing, path, new):
    if not path:
        return new
    k = path[0]
    return thing[:k] + (replaced(thing[k], path[1:], new),) + thing[k + 1:]


def with_enough(enough):
    return (enough, STICKS, KINDS)


def with_sticks(*sticks):
    return (2, sticks, (("", "", "", "", ""),))


def with_kinds(*kinds):
    return (2, STICKS, kinds)


def names(count):
    """So many names, rising."""
    return sorted([one + other for one in LETTERS for other in LETTERS][:count])


def great_house():
    called = names(240)
    sticks = tuple((name, 1 + k % 4) for k, name in enumerate(called))
    kinds = tuple((LETTERS[k % 26], *called[2 * k:2 * k + 2], *called[k:k + 2]) for k in range(120))
    return (4, sticks, kinds)


def great_bed():
    seed = tuple((x, y, (12 * x + y) % 120) for x in range(12) for y in range(12))
    return (great_house(), (12, 12), seed)


def some_standing(chance, house, floor):
    kinds = range(len(house[2]))
    places = [(x, y) for x in range(floor[0]) for y in range(floor[1])]
    chosen = chance.sample(places, chance.randint(0, len(places)))
    return tuple(sorted((x, y, chance.choice(kinds)) for x, y in chosen))


def some_beds(count):
    """Pairs of a bed and a standing of it, always the same ones."""
    chance = random.Random(20261117)
    found = []
    for number in range(count):
        called = sorted(chance.sample(names(60) + list("abc"), chance.randint(0, 4)))
        sticks = tuple((name, chance.randint(1, 4)) for name in called)
        kinds = tuple(
            (chance.choice(["", "a", "7"]), *[chance.choice(called + [""]) for side in range(4)])
            for kind in range(chance.randint(1, 5))
        )
        house = (chance.randint(1, 4), sticks, kinds)
        floor = (chance.randint(1, 4), chance.randint(1, 4))
        bed = (house, floor, some_standing(chance, house, floor))
        found.append((bed, some_standing(chance, house, floor)))
    return found


def is_plain(thing):
    """Whether it is tuples, whole numbers, texts, truths and None, through and through."""
    if type(thing) is tuple:
        return all(is_plain(part) for part in thing)
    return thing is None or type(thing) in (int, str, bool)
