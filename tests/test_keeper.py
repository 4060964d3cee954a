"""Points 2 and 10: the class Grow."""

import copy
import random
import unittest

from stickytiles.errors import NoKind, NoPlace, NotHeld, NothingBack, Taken, TileError
from stickytiles.holding import growings
from stickytiles.keeper import Grow
from stickytiles.rows import first_end, grown
from tests.growers import (
    FORK, LINE, MIDDLE_FLOORS, SQUARE, SQUARE_END, carpet, drawn_beds, large_beds, small_beds, snake, sum_bed,
    with_seed)
from tests.reckoning import places, plain_growings, plain_held
from tests.samples import great_bed, is_plain

GREAT = 10 ** 30


def told(keeper):
    return (keeper.standing(), keeper.row(), keeper.growings())


class Second:
    """The same by another way: all is reckoned anew each time, nothing is kept but the row."""

    def __init__(self, bed):
        self.bed = bed
        self.tiles = []

    def standing(self):
        return tuple(sorted([*self.bed[2], *self.tiles]))

    def row(self):
        return tuple(self.tiles)

    def growings(self):
        return plain_growings(self.bed, self.standing())

    def put(self, x, y, kind):
        if (x, y) not in places(self.bed):
            return NoPlace
        if (x, y) in [tile[:2] for tile in self.standing()]:
            return Taken
        if kind not in range(len(self.bed[0][2])):
            return NoKind
        if plain_held(self.bed, self.standing(), (x, y), kind) < self.bed[0][0]:
            return NotHeld
        self.tiles.append((x, y, kind))
        return None

    def on(self):
        may = self.growings()
        if not may:
            return None
        self.tiles.append(may[0])
        return may[0]

    def back(self):
        return self.tiles.pop() if self.tiles else NothingBack


def answer(ask, *parts):
    """What is told, or the class of the refusal."""
    try:
        return ask(*parts)
    except TileError as refusal:
        return type(refusal)


def some_tile(chance, bed, may, standing):
    turn = chance.randrange(6)
    if turn <= 2 and may:
        return chance.choice(may)
    if turn == 3 and standing:
        return chance.choice(standing)
    wide, high = bed[1]
    return (chance.randint(-1, wide), chance.randint(-1, high), chance.randint(-1, len(bed[0][2])))


class KeeperChecks(unittest.TestCase):
    def refused(self, keeper, refusal, ask, *parts):
        ahead = told(keeper)
        with self.assertRaises(refusal) as taken:
            ask(*parts)
        self.assertIs(type(taken.exception), refusal)
        self.assertEqual(told(keeper), ahead)

    def put_refused(self, keeper, refusal, *tiles):
        for tile in tiles:
            self.refused(keeper, refusal, keeper.put, *tile)


class BeginningTest(KeeperChecks):
    def test_at_first_the_seed_stands(self):
        for bed in small_beds(60) + [great_bed(), with_seed(SQUARE, ()), sum_bed(7, 7)]:
            self.assertEqual(told(Grow(bed)), (bed[2], (), growings(bed, bed[2])))

    def test_nothing_back_with_the_seed_alone(self):
        for bed in (SQUARE, with_seed(SQUARE, ()), great_bed()):
            keeper = Grow(bed)
            self.refused(keeper, NothingBack, keeper.back)
            self.refused(keeper, NothingBack, keeper.back)

    def test_no_seed(self):
        keeper = Grow(with_seed(SQUARE, ()))
        self.assertIsNone(keeper.on())
        self.put_refused(keeper, NotHeld, (0, 0, 0), (1, 1, 3))
        self.assertEqual(told(keeper), ((), (), ()))

    def test_a_seed_all_over(self):
        keeper = Grow(with_seed(SQUARE, SQUARE_END))
        self.assertIsNone(keeper.on())
        self.put_refused(keeper, Taken, (0, 0, 0), (1, 1, 3), (1, 1, 2), (1, 0, 9))
        self.refused(keeper, NothingBack, keeper.back)


class PutTest(KeeperChecks):
    def test_by_hand(self):
        keeper = Grow(SQUARE)
        self.assertEqual(keeper.growings(), ((0, 1, 2), (1, 0, 1)))
        self.assertIsNone(keeper.put(1, 0, 1))
        self.assertEqual(told(keeper), (((0, 0, 0), (1, 0, 1)), ((1, 0, 1),), ((0, 1, 2),)))
        self.assertIsNone(keeper.put(0, 1, 2))
        self.assertEqual(keeper.growings(), ((1, 1, 3),))
        self.assertIsNone(keeper.put(1, 1, 3))
        self.assertEqual(told(keeper), (SQUARE_END, ((1, 0, 1), (0, 1, 2), (1, 1, 3)), ()))

    def test_no_place(self):
        keeper = Grow(carpet(3, 2))
        for x, y in ((-1, 0), (0, -1), (3, 0), (0, 2), (3, 2), (-3, -2), (GREAT, 0), (0, GREAT), (-GREAT, -GREAT)):
            self.put_refused(keeper, NoPlace, (x, y, 0))

    def test_taken(self):
        keeper = Grow(carpet(3, 1, 1, 2))
        self.put_refused(keeper, Taken, (1, 0, 0), (1, 0, 1))
        keeper.put(0, 0, 1)
        self.put_refused(keeper, Taken, (0, 0, 0), (0, 0, 1))

    def test_no_kind(self):
        keeper = Grow(carpet(3, 1, 1, 2))
        self.put_refused(keeper, NoKind, (0, 0, 2), (0, 0, -1), (0, 0, -2), (2, 0, GREAT), (2, 0, -GREAT))

    def test_not_held(self):
        keeper = Grow(SQUARE)
        self.put_refused(keeper, NotHeld, (1, 1, 3), (1, 1, 0), (0, 1, 1), (1, 0, 2))
        keeper.put(0, 1, 2)
        self.put_refused(keeper, NotHeld, (1, 1, 3))

    def test_held_by_less_by_just_and_by_more_than_enough(self):
        kinds = (("", "", "a", "", ""), ("", "", "", "", "a"))
        for strength in (1, 2, 3, 4):
            for enough in (1, 2, 3, 4):
                keeper = Grow(((enough, (("a", strength),), kinds), (2, 1), ((0, 0, 0),)))
                if strength >= enough:
                    self.assertIsNone(keeper.put(1, 0, 1))
                    self.assertEqual(keeper.row(), ((1, 0, 1),))
                else:
                    self.put_refused(keeper, NotHeld, (1, 0, 1))

    def test_the_first_due(self):
        keeper = Grow(SQUARE)
        self.put_refused(keeper, NoPlace, (2, 0, 9), (-1, 0, -1), (0, 2, 0), (5, 5, 5))
        self.put_refused(keeper, Taken, (0, 0, 9), (0, 0, -1), (0, 0, 0), (0, 0, 3))
        self.put_refused(keeper, NoKind, (1, 1, 9), (1, 1, -1), (1, 0, 4), (0, 1, -2))
        self.put_refused(keeper, NotHeld, (1, 1, 3), (0, 1, 3))

    def test_where_a_place_is_taken_nothing_grows(self):
        keeper = Grow(FORK)
        self.assertEqual(keeper.growings(), ((1, 0, 1), (1, 0, 2)))
        keeper.put(1, 0, 2)
        self.assertEqual(keeper.growings(), ((2, 0, 1), (2, 0, 2)))
        self.put_refused(keeper, Taken, (1, 0, 1))


class OnAndBackTest(KeeperChecks):
    def test_on_puts_the_least(self):
        keeper = Grow(SQUARE)
        self.assertEqual([keeper.on() for step in range(5)], [(0, 1, 2), (1, 0, 1), (1, 1, 3), None, None])
        self.assertEqual(told(keeper), (SQUARE_END, ((0, 1, 2), (1, 0, 1), (1, 1, 3)), ()))
        keeper = Grow(FORK)
        self.assertEqual([keeper.on() for step in range(2)], [(1, 0, 1), None])

    def test_none_changes_nothing(self):
        keeper = Grow(LINE)
        while keeper.on() is not None:
            pass
        ahead = told(keeper)
        self.assertIsNone(keeper.on())
        self.assertEqual(told(keeper), ahead)
        self.assertEqual(keeper.back(), (2, 0, 2))

    def test_back_takes_the_last(self):
        keeper = Grow(SQUARE)
        keeper.put(1, 0, 1)
        keeper.put(0, 1, 2)
        keeper.on()
        self.assertEqual(keeper.back(), (1, 1, 3))
        self.assertEqual(keeper.growings(), ((1, 1, 3),))
        self.assertEqual(keeper.back(), (0, 1, 2))
        self.assertEqual(keeper.back(), (1, 0, 1))
        self.refused(keeper, NothingBack, keeper.back)
        self.assertEqual(told(keeper), (SQUARE[2], (), ((0, 1, 2), (1, 0, 1))))

    def test_what_was_taken_off_may_be_put_again(self):
        keeper = Grow(FORK)
        keeper.put(1, 0, 1)
        keeper.back()
        self.assertIsNone(keeper.put(1, 0, 2))
        self.assertEqual(keeper.row(), ((1, 0, 2),))

    def test_on_leads_to_the_first_end(self):
        for bed in small_beds(60):
            keeper = Grow(bed)
            while keeper.on() is not None:
                pass
            self.assertEqual((keeper.row(), keeper.standing()), first_end(bed))


class DrawnTurnsTest(KeeperChecks):
    def turn(self, chance, one, other):
        ask = chance.choice(("put", "put", "put", "on", "on", "back"))
        parts = ()
        if ask == "put":
            parts = some_tile(chance, one.bed, other.growings(), other.standing())
        ahead = told(one)
        said = answer(getattr(one, ask), *parts)
        self.assertEqual(said, getattr(other, ask)(*parts), (ask, parts))
        self.assertEqual(told(one), told(other))
        if isinstance(said, type):
            self.assertEqual(told(one), ahead)
            return said
        return ask

    def test_against_a_second_way(self):
        chance = random.Random(10)
        seen = []
        for bed in small_beds(80) + drawn_beds(20, MIDDLE_FLOORS, 3) + [carpet(3, 3, 2, 2), sum_bed(4, 4)]:
            one, other = Grow(bed), Second(bed)
            for step in range(40):
                seen.append(self.turn(chance, one, other))
        for each in (NoPlace, Taken, NoKind, NotHeld, NothingBack, "put", "on", "back"):
            self.assertTrue(seen.count(each) > 40, each)

    def test_two_keepers_by_turns(self):
        chance = random.Random(11)
        for bed in [SQUARE, FORK, carpet(3, 3, 1, 2)] + drawn_beds(20, MIDDLE_FLOORS, 4):
            pairs = [(Grow(bed), Second(bed)), (Grow(bed), Second(bed))]
            for step in range(40):
                k = chance.randrange(2)
                still = told(pairs[1 - k][0])
                self.turn(chance, *pairs[k])
                self.assertEqual(told(pairs[1 - k][0]), still)

    def test_taken_back_and_begun_anew(self):
        for bed in small_beds(40) + [carpet(4, 3), snake(3, 3, (3, 3))]:
            chance = random.Random(12)
            keeper = Grow(bed)
            first = told(keeper)
            while keeper.growings():
                keeper.put(*chance.choice(keeper.growings()))
            row, last = keeper.row(), told(keeper)
            self.assertEqual(grown(bed, row), keeper.standing())
            self.assertEqual(tuple(keeper.back() for tile in row), row[::-1])
            self.assertEqual(told(keeper), first)
            self.refused(keeper, NothingBack, keeper.back)
            for tile in row:
                keeper.put(*tile)
            self.assertEqual(told(keeper), last)


class LargeTest(KeeperChecks):
    def test_at_the_bounds(self):
        for bed, sure in large_beds():
            keeper = Grow(bed)
            for step in range(30):
                if keeper.on() is None:
                    break
            self.assertEqual(keeper.growings(), growings(bed, keeper.standing()))
            ahead = told(keeper)
            if keeper.growings():
                x, y, kind = keeper.growings()[-1]
                keeper.put(x, y, kind)
                self.assertEqual(keeper.back(), (x, y, kind))
                self.assertEqual(told(keeper), ahead)

    def test_all_places_and_back(self):
        keeper = Grow(carpet(12, 12, 1, 120))
        row = []
        while keeper.growings():
            row.append(keeper.growings()[-1])
            keeper.put(*row[-1])
        self.assertEqual((len(keeper.row()), keeper.row()), (143, tuple(row)))
        self.assertEqual([keeper.back() for tile in row], row[::-1])
        self.refused(keeper, NothingBack, keeper.back)


class SameTest(unittest.TestCase):
    def test_plain_and_nothing_changed(self):
        for bed in small_beds(20):
            before = copy.deepcopy(bed)
            keepers = [Grow(bed), Grow(bed)]
            said = []
            for keeper in keepers:
                said.append([(keeper.on(), told(keeper), told(keeper)) for step in range(4)])
            self.assertEqual(said[0], said[1])
            for tile, one, other in said[0]:
                self.assertTrue(is_plain((tile, one)))
                self.assertEqual(one, other)
            self.assertEqual(bed, before)

    def test_what_was_told_stays_as_it_was(self):
        keeper = Grow(SQUARE)
        first = told(keeper)
        copied = copy.deepcopy(first)
        keeper.on()
        keeper.on()
        self.assertEqual(first, copied)


if __name__ == "__main__":
    unittest.main()
