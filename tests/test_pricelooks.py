"""Points 2, 3 (g) and 29: shows_least_wrong; and in blocks: 0, many, never."""

import copy
import functools
import itertools
import random
import unittest

from stickytiles.blocks import blocked
from stickytiles.pricelooks import shows_least_wrong
from stickytiles.prices import least_wrong
from stickytiles.rows import first_end
from tests.frames import drawn_framed, great_framed, plain_block, plain_blocks
from tests.growers import (
    GREAT, LINE, MIDDLE_FLOORS, SQUARE, SQUARE_END, carpet, drawn_beds, small_beds, sum_bed)
from tests.reckoning import places
from tests.roughs import drawn_cases, more_of, plain_shows_least_wrong, plain_step, plain_steps
from tests.samples import junk, nested, part_at, paths, replaced


@functools.lru_cache(None)
def cases():
    """(bed, base, goal, told)."""
    chance = random.Random(292)
    beds = small_beds(400) + [bed for bed in drawn_beds(100, MIDDLE_FLOORS, 293) if bed[0][0] > 1]
    found = drawn_cases(chance, beds, 5) + drawn_cases(chance, [sum_bed(4, 4), carpet(4, 4, 4), sum_bed(3, 4)] * 4, 5)
    found += [(SQUARE, SQUARE[2], SQUARE_END), (SQUARE, ((1, 1, 3),), SQUARE_END), (SQUARE, SQUARE[2], SQUARE[2])]
    return [case + (least_wrong(*case),) for case in found]


def cases_of(word, least_more=0):
    return [case for case in cases() if case[3][0] == word and len(case[2]) - len(case[1]) >= least_more]


class LookChecks(unittest.TestCase):
    def yes(self, bed, base, goal, *things):
        for thing in things:
            self.assertIs(shows_least_wrong(bed, base, goal, thing), True)

    def no(self, bed, base, goal, *things):
        for thing in things:
            self.assertIs(shows_least_wrong(bed, base, goal, thing), False)

    def alike(self, bed, base, goal, *things):
        """As the second way says; told is how many were taken."""
        taken = 0
        for thing in things:
            right = plain_shows_least_wrong(bed, base, goal, thing)
            self.assertIs(shows_least_wrong(bed, base, goal, thing), right)
            taken += right
        return taken


class TakenTest(LookChecks):
    def test_what_is_told(self):
        for bed, base, goal, told in cases():
            self.yes(bed, base, goal, told)
            self.assertTrue(plain_shows_least_wrong(bed, base, goal, told))
        self.assertGreater(len(cases_of("never")), 25)
        self.assertGreater(len(cases_of("least", 3)), 40)

    def test_other_rows_of_as_few(self):
        others = 0
        for bed, base, goal, told in cases_of("least"):
            if len(told[1]) <= 4:
                for row in itertools.permutations(told[1]):
                    steps = plain_steps(bed, base, row)
                    right = None not in steps and steps.count("wrong") == told[2][-1]
                    self.assertIs(shows_least_wrong(bed, base, goal, ("least", row, told[2])), right)
                    others += right and row != told[1]
        self.assertGreater(others, 40)

    def test_other_parts_that_show_never(self):
        # One that no rough row leads to is taken where nothing goes on from it.
        taken = 0
        for bed, base, goal, told in cases_of("never"):
            tiles = more_of(base, goal)
            for size in range(len(tiles) + 1):
                for some in itertools.combinations(tiles, size):
                    part = tuple(sorted(base + some))
                    taken += self.alike(bed, base, goal, ("never", part)) and part != told[1]
        self.assertGreater(taken, 10)

    def test_other_prices_that_show_it(self):
        # Of a part that can't be come to some price may be told, if those behind it keep to it.
        bed, base, goal = SQUARE, SQUARE[2], SQUARE_END
        word, row, prices = least_wrong(bed, base, goal)
        self.assertEqual(prices, (0, 0, 0, 0, None, 1, 1, 0))
        for price in (0, 1, 2, GREAT):
            other = prices[:4] + (price,) + prices[5:]
            # Upon the corner the two others are growings, whose price is 1.
            self.assertIs(shows_least_wrong(bed, base, goal, (word, row, other)), price >= 1)
        self.yes(bed, base, goal, (word, row, (0, 0, 0, 0, None, 0, 0, 0)), (word, row, (0,) * 8))
        self.no(bed, base, goal, (word, row, (0, 0, 0, 0, None, 2, 1, 0)), (word, row, (0, 1, 0, 0, None, 1, 1, 0)))
        self.no(bed, base, goal, (word, row, (0, 0, 0, 1, None, 1, 1, 0)), (word, row, (0, 0, 0, 0, None, None, 1, 0)))
        self.no(bed, base, goal, (word, row, (0, 0, 0, 0, None, 1, 1, 1)), (word, row, (1, 0, 0, 0, None, 1, 1, 0)))


class LeastTest(LookChecks):
    def test_a_price_another_one(self):
        taken = refused = 0
        for bed, base, goal, told in cases_of("least"):
            prices = told[2]
            for k in range(0, len(prices), 1 + len(prices) // 12):
                whole = 0 if prices[k] is None else prices[k]
                for other in (whole + 1, whole - 1, 0, None, GREAT, -GREAT, -1, 2):
                    some = self.alike(bed, base, goal, replaced(told, (2, k), other))
                    taken += some
                    refused += not some
                self.no(bed, base, goal, *[replaced(told, (2, k), other) for other in (True, False, "0", (0,), [0])])
        self.assertGreater(taken, 100)
        self.assertGreater(refused, 400)

    def test_first_and_last(self):
        for bed, base, goal, told in cases_of("least"):
            self.no(bed, base, goal, *[replaced(told, (2, 0), other) for other in (1, None, -1, False, GREAT)])
            last = len(told[2]) - 1
            count = told[2][-1]
            for other in (count + 1, count - 1, None, -1, GREAT, bool(count)):
                self.no(bed, base, goal, replaced(told, (2, last), other))

    def test_too_dear_a_row(self):
        # Rows with more wrong ones than the least, with the last price theirs: some step is too dear.
        seen = 0
        for bed, base, goal, told in cases_of("least", 2):
            if len(told[1]) <= 4:
                for row in itertools.permutations(told[1]):
                    steps = plain_steps(bed, base, row)
                    if None not in steps and steps.count("wrong") > told[2][-1]:
                        self.no(bed, base, goal, ("least", row, told[2][:-1] + (steps.count("wrong"),)))
                        seen += 1
        self.assertGreater(seen, 10)

    def test_prices_left_out_and_one_more(self):
        for bed, base, goal, (word, row, prices) in cases_of("least"):
            for k in range(0, len(prices), 1 + len(prices) // 8):
                self.no(bed, base, goal, (word, row, prices[:k] + prices[k + 1:]))
                self.no(bed, base, goal, (word, row, prices[:k + 1] + prices[k:]))
            self.no(bed, base, goal, (word, row, prices + (None,)), (word, row, ()), (word, row, prices + prices))

    def test_the_row_another_one(self):
        for bed, base, goal, (word, row, prices) in cases_of("least", 1):
            others = [row[:k] + row[k + 1:] for k in range(len(row))]
            others += [row[:k + 1] + row[k:] for k in range(len(row))]
            others += [row + row[:1], row[::-1], base[:1] + row, row[1:] + row[:1]]
            for k, (x, y, kind) in enumerate(row):
                for tile in ((x, y, kind + 1), (x, y, -1), (x + 1, y, kind), (x, y - 1, kind), (GREAT, y, kind),
                             (x, y, kind - len(bed[0][2]))):
                    others.append(row[:k] + (tile,) + row[k + 1:])
                for m in range(k):
                    exchanged = list(row)
                    exchanged[k], exchanged[m] = row[m], row[k]
                    others.append(tuple(exchanged))
            self.alike(bed, base, goal, *[(word, other, prices) for other in others])

    def test_never_for_what_can_be(self):
        for bed, base, goal, (word, row, prices) in cases_of("least"):
            tiles = more_of(base, goal)
            for size in range(len(tiles) + 1):
                for some in list(itertools.combinations(tiles, size))[:12]:
                    self.alike(bed, base, goal, ("never", tuple(sorted(base + some))))
            self.no(bed, base, goal, ("never", goal), ("never", base if base == goal else ()), ("never", row, prices))


class NeverTest(LookChecks):
    def test_the_part_another_one(self):
        taken = 0
        for bed, base, goal, (word, part) in cases_of("never"):
            for k in range(len(part)):
                others = [part[:k] + part[k + 1:], part[:k + 1] + part[k:]]
                x, y, kind = part[k]
                others.append(part[:k] + ((x, y, (kind + 1) % len(bed[0][2])),) + part[k + 1:])
                others.append(part[:k] + ((x, y, -1),) + part[k + 1:])
                taken += self.alike(bed, base, goal, *[(word, other) for other in others])
            for tile in more_of(part, goal):
                taken += self.alike(bed, base, goal, (word, tuple(sorted(part + (tile,)))), (word, part + (tile,)))
            free = [spot for spot in places(bed) if spot not in [tile[:2] for tile in goal]]
            for spot in free[:4]:
                self.no(bed, base, goal, (word, tuple(sorted(part + (spot + (0,),)))))
            self.no(bed, base, goal, (word, goal), (word, tuple(reversed(goal))))
            if len(part) > 1:
                self.no(bed, base, goal, (word, part[::-1]))
            if base:
                self.no(bed, base, goal, (word, more_of(base, part)), (word, ()))
        self.assertGreater(taken, 5)

    def test_least_for_what_never_can_be(self):
        for bed, base, goal, (word, part) in cases_of("never"):
            tiles = more_of(base, goal)
            for row in list(itertools.permutations(tiles))[:12]:
                for price in (0, 1, None):
                    prices = (0,) + (price,) * (2 ** len(tiles) - 1)
                    self.no(bed, base, goal, ("least", row, prices))

    def test_a_tile_that_the_part_lacks_though_it_is_wrong_there(self):
        # The corner is a wrong one beside the north tile: so the part without it shows nothing.
        goal = ((0, 0, 0), (0, 1, 2), (1, 0, 0), (1, 1, 3))
        self.yes(SQUARE, SQUARE[2], goal, ("never", ((0, 0, 0), (0, 1, 2), (1, 1, 3))))
        self.no(SQUARE, SQUARE[2], goal, ("never", ((0, 0, 0), (0, 1, 2))), ("never", ((0, 0, 0),)))


class AnythingTest(LookChecks):
    def some(self):
        found = [(SQUARE, SQUARE[2], SQUARE_END), (SQUARE, SQUARE[2], ((0, 0, 0), (1, 1, 3))), (LINE, LINE[2], LINE[2])]
        return [case + (least_wrong(*case),) for case in found] + cases_of("least", 3)[:2] + cases_of("never", 2)[:2]

    def test_words(self):
        for bed, base, goal, told in cases()[::5]:
            for word in ("Least", "never ", " least", "", "l", "sure", "parts", b"least", ("least",), 1, None):
                self.no(bed, base, goal, (word,) + told[1:])
            other = {"least": "never", "never": "least"}[told[0]]
            self.no(bed, base, goal, (other,) + told[1:])

    def test_parts_more_or_fewer(self):
        for bed, base, goal, told in cases()[::3]:
            self.no(bed, base, goal, told + ((),), told[:-1], told[1:], told[:1], (told,), (), told + told)
            self.no(bed, base, goal, ("never", base, base), ("least", base))
            if told[0] == "least":
                self.no(bed, base, goal, ("least", told[2], told[1]))

    def test_lists_and_truths_at_each_depth(self):
        for bed, base, goal, told in self.some():
            for path in paths(told):
                part = part_at(told, path)
                if isinstance(part, tuple):
                    for other in (list(part), dict.fromkeys(range(len(part))), str(part), None):
                        self.no(bed, base, goal, replaced(told, path, other))
                elif part in (0, 1):
                    self.no(bed, base, goal, replaced(told, path, bool(part)))

    def test_anything(self):
        for bed, base, goal, told in self.some():
            self.no(bed, base, goal, *junk())

    def test_anything_anywhere_within(self):
        for bed, base, goal, told in self.some():
            for path in paths(told):
                part = part_at(told, path)
                for thing in junk():
                    whole = replaced(told, path, thing)
                    # Where a price stands, None and numbers may be right: those are held against the second way.
                    if thing is None or type(thing) is int:
                        self.alike(bed, base, goal, whole)
                    else:
                        self.no(bed, base, goal, whole)

    def test_nested_sixty_deep(self):
        wraps = (lambda thing: (thing,), lambda thing: [thing], lambda thing: (thing, thing), lambda thing: (0, thing))
        for bed, base, goal, told in self.some():
            for wrap in wraps:
                for core in ((), 0, "least", told):
                    deep = nested(55, wrap, core)
                    self.no(bed, base, goal, nested(4, wrap, deep), ("least", deep, (0,)), ("never", deep))
                    self.no(bed, base, goal, ("least", (), deep), ("least", (), (deep,)), ("never", (deep,)))
                    for path in paths(told)[1:]:
                        self.no(bed, base, goal, replaced(told, path, deep))


class BlocksTest(LookChecks):
    def price_in_block(self, bed, many, standing, spot, kind):
        """Of the kind's block at the spot, the standing's blocks being there."""
        new = blocked(bed, many)
        base = plain_blocks(many, standing)
        goal = tuple(sorted(base + plain_block(many, spot + (kind,))))
        told = least_wrong(new, base, goal)
        self.yes(new, base, goal, told)
        if told[0] == "never":
            self.assertEqual(told[1], base)
            return None
        return told[2][-1]

    def sides_that_stick(self, bed, standing, spot, kind):
        return sum(
            plain_step(bed, [tile for tile in standing if tile[:2] == near], spot + (kind,)) is not None
            for near in ((spot[0], spot[1] - 1), (spot[0] + 1, spot[1])))

    def check(self, bed, many, standing, spot):
        seen = []
        for kind in range(len(bed[0][2])):
            sides = self.sides_that_stick(bed, standing, spot, kind)
            self.assertEqual(self.price_in_block(bed, many, standing, spot, kind), (None, many, 0)[sides])
            seen.append(sides)
        return seen

    def test_on_what_grew(self):
        chance = random.Random(294)
        for many, floor in ((1, (4, 4)), (2, (3, 3)), (2, (3, 4)), (3, (2, 2)), (3, (3, 3))):
            seen = []
            for bed in [sum_bed(*floor)] + [drawn_framed(chance, floor, 3, 6) for step in range(3)]:
                # Of the framed bed's rows: each place next in turn has its south and east, but not its north and west.
                row = first_end(bed)[0]
                for size in range(0, min(len(row), 3)):
                    seen += self.check(bed, many, tuple(sorted(bed[2] + row[:size])), row[size][:2])
            self.assertEqual(set(seen), {0, 1, 2})

    def test_on_any_blocks(self):
        # The south and the east one whole, the north and the west one empty or off the floor, the others as they come.
        chance = random.Random(295)
        for many, floor in ((1, (4, 3)), (2, (3, 3)), (3, (3, 3))):
            seen = []
            for step in range(12 if many < 3 else 5):
                bed = drawn_framed(chance, floor, 3, 5)
                x, y = spot = (chance.randint(0, floor[0] - 2), chance.randint(1, floor[1] - 1))
                empty = [spot, (x - 1, y), (x, y + 1)]
                whole = [(x, y - 1), (x + 1, y)]
                standing = tuple(
                    place + (chance.randrange(5),) for place in places(bed)
                    if place in whole or (place not in empty and chance.randrange(2)))
                seen += self.check(bed, many, standing, spot)
            self.assertEqual(set(seen), {0, 1, 2})

    def test_of_a_hundred_and_twenty_kinds(self):
        chance = random.Random(296)
        bed = great_framed(chance, (4, 4))
        standing = bed[2]
        seen = {}
        for kind in range(120):
            seen.setdefault(self.sides_that_stick(bed, standing, (2, 1), kind), kind)
        self.assertTrue({0, 1} <= set(seen))
        for many in (1, 2, 3):
            for sides, kind in seen.items():
                self.assertEqual(self.price_in_block(bed, many, standing, (2, 1), kind), (None, many, 0)[sides])


class SameTest(unittest.TestCase):
    def test_the_same_twice_and_nothing_changed(self):
        for bed, base, goal, told in cases()[::4]:
            for thing in (told, list(told), [list(part) for part in told[1:]], {"a": [told]}):
                before = copy.deepcopy((bed, base, goal, thing))
                self.assertIs(
                    shows_least_wrong(bed, base, goal, thing), shows_least_wrong(bed, base, goal, thing))
                self.assertEqual((bed, base, goal, thing), before)


if __name__ == "__main__":
    unittest.main()
