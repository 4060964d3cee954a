"""Points 2, 3 (g) and 26: is_framed, blocked."""

import copy
import random
import unittest

from stickytiles.beds import is_bed
from stickytiles.blocks import blocked, is_framed
from stickytiles.errors import NotFramed, TileError
from stickytiles.holding import growings
from stickytiles.light import is_light
from stickytiles.rows import first_end, grown
from stickytiles.verdictlooks import shows_verdict
from stickytiles.verdicts import verdict
from tests.frames import (
    drawn_framed, frame, framed_beds, great_framed, plain_block, plain_blocks, sticks_east, sticks_north)
from tests.growers import HAND_MADE, carpet, drawn_beds, small_beds, snake, sum_bed, with_seed
from tests.reckoning import all_ends, drawn_row, places
from tests.samples import BED, is_plain

FLOORS = ((1, 1), (1, 4), (4, 1), (2, 2), (3, 2), (2, 4), (4, 4), (4, 3))
ALL_FLOORS = [(wide, high) for wide in range(1, 13) for high in range(1, 13)]


def with_house(bed, enough=None, sticks=None, kinds=None):
    house = bed[0]
    new = (
        house[0] if enough is None else enough, house[1] if sticks is None else sticks,
        house[2] if kinds is None else kinds)
    return (new,) + bed[1:]


def with_kind(bed, number, kind):
    kinds = bed[0][2]
    return with_house(bed, kinds=kinds[:number] + (kind,) + kinds[number + 1:])


class IsFramedTest(unittest.TestCase):
    def setUp(self):
        chance = random.Random(261)
        self.chance = chance
        self.beds = framed_beds(chance, FLOORS) + [sum_bed(12, 12), great_framed(chance, (5, 6)), sum_bed(12, 1)]

    def yes(self, *beds):
        for bed in beds:
            self.assertTrue(is_bed(bed))
            self.assertIs(is_framed(bed), True)

    def no(self, *beds):
        for bed in beds:
            self.assertTrue(is_bed(bed))
            self.assertIs(is_framed(bed), False)

    def test_all_floors(self):
        for floor in ALL_FLOORS:
            self.yes(sum_bed(*floor), drawn_framed(self.chance, floor))

    def test_framed_ones_are_sure(self):
        for bed in self.beds:
            self.yes(bed)
            self.assertEqual(verdict(bed)[0], "sure")

    def test_another_enough(self):
        for bed in self.beds:
            self.no(*[with_house(bed, enough=enough) for enough in (1, 3, 4)])

    def test_another_strength(self):
        for bed in self.beds:
            sticks = bed[0][1]
            for k, (name, strength) in enumerate(sticks):
                for other in (2, 3, 4):
                    self.no(with_house(bed, sticks=sticks[:k] + ((name, other),) + sticks[k + 1:]))
            # Of a stick of no kind, too; with strength 1 it does no harm.
            self.no(with_house(bed, sticks=sticks + (("zzz", 2),)))
            self.yes(with_house(bed, sticks=sticks + (("zzz", 1),)))

    def test_a_side_without_a_name(self):
        for bed in self.beds:
            kinds = bed[0][2]
            for number in sorted({0, len(kinds) // 2, len(kinds) - 1}):
                for side in range(1, 5):
                    kind = kinds[number][:side] + ("",) + kinds[number][side + 1:]
                    self.no(with_kind(bed, number, kind))
            self.no(with_house(bed, kinds=kinds + (("", "", "", "", ""),)))

    def test_kinds_alike_in_south_and_east(self):
        for bed in self.beds:
            face, north, east, south, west = bed[0][2][0]
            for other in bed[0][1]:
                self.no(with_house(bed, kinds=bed[0][2] + ((face, north, east, south, other[0]),)))
                self.no(with_house(bed, kinds=bed[0][2] + (("q", other[0], east, south, west),)))
            self.no(with_house(bed, kinds=bed[0][2] + bed[0][2][-1:]))

    def test_kinds_alike_in_one_of_them_or_in_north_and_west(self):
        sticks = (("a", 1), ("b", 1))
        seed = ((0, 0, 0), (1, 0, 1), (1, 1, 0))
        # North, east, south, west.
        for one, other in (("aaaa", "abaa"), ("aaaa", "aaba"), ("aaba", "abaa")):
            self.yes(((2, sticks, (("", *one), ("", *other))), (2, 2), seed))
        for one, other in (("aaaa", "baaa"), ("aaaa", "aaab"), ("aaba", "babb"), ("aaba", "aaba")):
            self.no(((2, sticks, (("x", *one), ("y", *other))), (2, 2), seed))

    def test_the_seed_lacks_a_place_or_has_one_more(self):
        for bed in self.beds:
            seed = bed[2]
            for k in range(len(seed)):
                self.no(with_seed(bed, seed[:k] + seed[k + 1:]))
            free = [place for place in places(bed) if place not in frame(bed[1])]
            for place in free[:3] + free[-3:]:
                self.no(with_seed(bed, sorted(seed + (place + (0,),))))
                # As many as there are, but one of them elsewhere.
                k = self.chance.randrange(len(seed))
                self.no(with_seed(bed, sorted(seed[:k] + seed[k + 1:] + (place + (0,),))))
            self.no(with_seed(bed, ()))

    def test_other_frames(self):
        for wide, high in ((2, 2), (3, 3), (4, 2), (2, 5)):
            bed = sum_bed(wide, high)
            for rims in (lambda x, y: y == 0 or x == 0, lambda x, y: y == high - 1 or x == wide - 1,
                         lambda x, y: y == high - 1 or x == 0, lambda x, y: y == 0, lambda x, y: x == wide - 1,
                         lambda x, y: True, lambda x, y: x in (0, wide - 1) or y in (0, high - 1)):
                seed = tuple((x, y, 0) for x, y in places(bed) if rims(x, y))
                right = [tile[:2] for tile in seed] == frame((wide, high))
                self.assertIs(is_framed(with_seed(bed, seed)), right)

    def test_other_beds(self):
        self.no(BED, snake(4, 4, (4, 4)), carpet(4, 4), *HAND_MADE)
        for bed in small_beds(100) + drawn_beds(20, ((5, 5), (1, 1)), 262):
            house, floor, seed = bed
            right = (
                house[0] == 2 and {strength for name, strength in house[1]} <= {1}
                and all(all(kind[1:]) for kind in house[2]) and [tile[:2] for tile in seed] == frame(floor)
                and len({kind[2:4] for kind in house[2]}) == len(house[2]))
            self.assertIs(is_framed(bed), right)


class RefusedTest(unittest.TestCase):
    def refused(self, bed, many):
        with self.assertRaises(NotFramed) as caught:
            blocked(bed, many)
        self.assertIs(type(caught.exception), NotFramed)
        self.assertIsInstance(caught.exception, TileError)

    def test_each_reason(self):
        chance = random.Random(263)
        for bed in framed_beds(chance, ((2, 2), (3, 4), (4, 1), (1, 1))):
            kinds = bed[0][2]
            for many in (1, 2, 3):
                self.assertTrue(is_bed(blocked(bed, many)))
                for enough in (1, 3, 4):
                    self.refused(with_house(bed, enough=enough), many)
                self.refused(with_house(bed, sticks=bed[0][1][:-1] + ((bed[0][1][-1][0], 2),)), many)
                self.refused(with_kind(bed, 0, kinds[0][:1] + ("",) + kinds[0][2:]), many)
                self.refused(with_house(bed, kinds=kinds + kinds[:1]), many)
                self.refused(with_seed(bed, bed[2][1:]), many)
                self.refused(with_seed(bed, ()), many)
                full = with_seed(bed, [place + (0,) for place in places(bed)])
                if not is_framed(full):
                    self.refused(full, many)

    def test_too_wide_and_too_high(self):
        for wide, high in ALL_FLOORS:
            bed = sum_bed(wide, high)
            for many in (1, 2, 3):
                if many * wide > 12 or many * high > 12:
                    self.refused(bed, many)
                else:
                    self.assertEqual(blocked(bed, many)[1], (many * wide, many * high))

    def test_not_framed_and_too_wide(self):
        for many in (1, 2, 3):
            self.refused(with_seed(sum_bed(12, 12), ()), many)
            self.refused(carpet(7, 7), many)


class BlockedChecks(unittest.TestCase):
    def check(self, bed, many):
        new = blocked(bed, many)
        self.assertTrue(is_bed(new))
        house, floor, seed = new
        self.assertEqual(house[0], 2)
        self.assertEqual({strength for name, strength in house[1]}, {1})
        self.assertEqual(floor, (many * bed[1][0], many * bed[1][1]))
        self.assertEqual([kind[0] for kind in house[2]], [kind[0] for kind in bed[0][2] for step in range(many * many)])
        self.assertEqual(seed, plain_blocks(many, bed[2]))
        self.check_sticks(bed, many, house[2])
        return new

    def check_sticks(self, bed, many, kinds):
        for one, kind in enumerate(kinds):
            for other, near in enumerate(kinds):
                self.assertEqual(kind[1] != "" and kind[1] == near[3], sticks_north(bed, many, one, other))
                self.assertEqual(kind[2] != "" and kind[2] == near[4], sticks_east(bed, many, one, other))

    def check_end(self, bed, many):
        new = blocked(bed, many)
        for each in (bed, new):
            told = verdict(each)
            self.assertEqual(told[0], "sure")
            self.assertIs(shows_verdict(each, told), True)
        end = plain_blocks(many, first_end(bed)[1])
        self.assertEqual(first_end(new)[1], end)
        self.assertEqual(growings(new, end), ())
        return new


class BlockedTest(BlockedChecks):
    def test_kinds_faces_sticks_and_seed(self):
        chance = random.Random(264)
        for many in (1, 2, 3):
            for bed in framed_beds(chance, ((1, 1), (2, 3), (4, 4)), 3) + [drawn_framed(chance, (3, 2), 1, 1)]:
                self.check(bed, many)

    def test_eleven_names_and_many_kinds(self):
        chance = random.Random(265)
        self.check(great_framed(chance, (12, 12)), 1)
        self.check(great_framed(chance, (6, 5)), 2)
        self.check(great_framed(chance, (4, 4)), 3)

    def test_names_of_upright_and_level_sides(self):
        # One name all around: upright ones still stick to upright ones alone, each at its own number.
        bed = ((2, (("a", 1),), (("o", "a", "a", "a", "a"),)), (2, 2), ((0, 0, 0), (1, 0, 0), (1, 1, 0)))
        for many in (1, 2, 3):
            self.check(bed, many)
            self.check_end(bed, many)

    def test_by_hand(self):
        bed = ((2, (("a", 1), ("b", 1)), (("x", "a", "b", "b", "a"),)), (1, 2), ((0, 0, 0), (0, 1, 0)))
        house, floor, seed = blocked(bed, 2)
        self.assertEqual(floor, (2, 4))
        self.assertEqual(seed, (
            (0, 0, 0), (0, 1, 2), (0, 2, 0), (0, 3, 2), (1, 0, 1), (1, 1, 3), (1, 2, 1), (1, 3, 3)))
        west_south, east_south, west_north, east_north = house[2]
        self.assertEqual([kind[0] for kind in house[2]], ["x"] * 4)
        self.assertEqual(west_south[2], east_south[4])
        self.assertEqual(west_south[1], west_north[3])
        self.assertEqual(east_south[1], east_north[3])
        self.assertEqual(west_north[2], east_north[4])
        # North is "a" and south is "b": no two blocks stick there, nor from west to east.
        for kind in house[2]:
            self.assertNotIn(west_north[1], (kind[3], ""))
            self.assertNotIn(east_south[2], (kind[4], ""))

    def test_blocks_of_one_grow_alike(self):
        chance = random.Random(266)
        for bed in framed_beds(chance, ((3, 3), (5, 4), (12, 12))):
            self.assertEqual(first_end(blocked(bed, 1)), first_end(bed))


class EndTest(BlockedChecks):
    def test_ends(self):
        chance = random.Random(267)
        grew = 0
        for floor in FLOORS:
            for many in (1, 2, 3):
                for bed in [sum_bed(*floor)] + [drawn_framed(chance, floor, 2) for step in range(4)]:
                    new = self.check_end(bed, many)
                    grew += len(first_end(new)[1]) - len(new[2])
        self.assertGreater(grew, 500)

    def test_ends_on_larger_floors(self):
        chance = random.Random(268)
        for bed, many in (
                (sum_bed(12, 12), 1), (sum_bed(6, 6), 2), (sum_bed(5, 6), 2), (sum_bed(4, 4), 3), (sum_bed(12, 3), 1)):
            self.check_end(bed, many)
        for floor, many in (((12, 12), 1), ((6, 6), 2), ((4, 4), 3)):
            bed = great_framed(chance, floor)
            new = self.check_end(bed, many)
            self.assertGreater(len(first_end(new)[1]), len(new[2]))

    def test_whatever_comes_first(self):
        chance = random.Random(269)
        for bed, many in ((sum_bed(4, 4), 2), (sum_bed(3, 3), 3), (drawn_framed(chance, (3, 4), 2), 2)):
            new = blocked(bed, many)
            end = plain_blocks(many, first_end(bed)[1])
            for step in range(4):
                self.assertEqual(grown(new, drawn_row(chance, new, growings)), end)

    def test_all_rows(self):
        for bed, many in ((sum_bed(2, 3), 2), (sum_bed(3, 2), 2), (sum_bed(2, 2), 3)):
            end = plain_blocks(many, first_end(bed)[1])
            self.assertEqual(all_ends(blocked(bed, many)), [end])

    def test_first_rows_are_light(self):
        # Each tile is held from the south and from the east alone.
        for many in (1, 2, 3):
            new = blocked(sum_bed(4, 4), many)
            self.assertIs(is_light(new, first_end(new)[0]), True)

    def test_where_nothing_fits_nothing_grows(self):
        # Of the kinds none has the frame's sides: the bed grows not at all, nor does the blocked one.
        kinds = (("p", "c", "b", "a", "c"), ("q", "a", "a", "d", "d"))
        seed = ((0, 0, 1), (1, 0, 1), (2, 0, 1), (2, 1, 1), (2, 2, 1))
        bed = ((2, (("a", 1), ("b", 1), ("c", 1), ("d", 1)), kinds), (3, 3), seed)
        for many in (1, 2, 3):
            new = self.check_end(bed, many)
            self.assertEqual(first_end(new)[1], new[2])

    def test_a_tile_of_the_bed_is_a_block(self):
        self.assertEqual(plain_block(2, (3, 1, 5)), ((6, 2, 20), (6, 3, 22), (7, 2, 21), (7, 3, 23)))


class SameTest(unittest.TestCase):
    def test_plain_the_same_twice_and_nothing_changed(self):
        chance = random.Random(270)
        for bed in framed_beds(chance, ((2, 3), (4, 4))) + [great_framed(chance, (4, 4))]:
            before = copy.deepcopy(bed)
            for many in (1, 2, 3):
                told = blocked(bed, many)
                self.assertTrue(is_plain(told))
                self.assertEqual(blocked(bed, many), told)
                self.assertIs(is_framed(bed), is_framed(bed))
            self.assertEqual(bed, before)
        for bed in (carpet(3, 3), sum_bed(7, 7)):
            before = copy.deepcopy(bed)
            for step in range(2):
                with self.assertRaises(NotFramed):
                    blocked(bed, 2)
            self.assertEqual(bed, before)


if __name__ == "__main__":
    unittest.main()
