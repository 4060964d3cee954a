"""Points 7 and 8: sides_held, held, growings."""

import copy
import unittest

from stickytiles.holding import growings, held, sides_held
from stickytiles.moves import (
    mirrored, mirrored_standing, renamed, reordered, reordered_standing, turned, turned_standing)
from tests.reckoning import EAST, NORTH, SOUTH, WEST, places, plain_growings, plain_held, plain_sides_held
from tests.samples import BED, HOUSE, KINDS, STICKS, great_bed, is_plain, names, some_beds

RING = ((0, 1, 1), (1, 0, 1), (1, 2, 1), (2, 1, 1))


class HeldTest(unittest.TestCase):
    def check(self, standing, place, kind, sides, strength, bed=BED):
        self.assertEqual(sides_held(bed, standing, place, kind), sides)
        self.assertEqual(held(bed, standing, place, kind), strength)

    def test_beside_one_tile(self):
        self.check(BED[2], (1, 2), 1, (SOUTH,), 1)
        self.check(BED[2], (2, 1), 1, (WEST,), 2)
        self.check(BED[2], (1, 0), 1, (NORTH,), 3)
        self.check(BED[2], (0, 1), 1, (EAST,), 4)

    def test_not_at_corners_or_afar(self):
        for place in ((0, 0), (0, 2), (2, 0), (2, 2)):
            for kind in range(len(KINDS)):
                self.check(BED[2], place, kind, (), 0)
        self.check(((0, 0, 0),), (2, 0), 1, (), 0)

    def test_a_side_must_face_the_same_name(self):
        for place in ((1, 2), (2, 1), (1, 0), (0, 1)):
            self.check(BED[2], place, 0, (), 0)

    def test_in_the_middle_at_all_sides(self):
        self.check(RING, (1, 1), 0, (NORTH, EAST, SOUTH, WEST), 10)
        self.check(RING[1:], (1, 1), 0, (NORTH, EAST, SOUTH), 6)
        self.check(RING[:3], (1, 1), 0, (NORTH, SOUTH, WEST), 8)
        self.check(RING[1:3], (1, 1), 0, (NORTH, SOUTH), 4)
        self.check((RING[0], RING[3]), (1, 1), 0, (EAST, WEST), 6)
        self.check(RING, (1, 1), 1, (), 0)
        self.check(RING, (1, 1), 5, (), 0)

    def test_tiles_of_several_kinds_around(self):
        self.check(((0, 1, 3), (1, 0, 2), (1, 2, 4), (2, 1, 0)), (1, 1), 0, (NORTH, WEST), 5)
        self.check(((1, 2, 5),), (1, 1), 0, (NORTH,), 1)

    def test_at_rims(self):
        self.check(((0, 0, 1), (0, 2, 1), (1, 1, 1)), (0, 1), 0, (NORTH, EAST, SOUTH), 6)
        self.check(((1, 2, 1), (2, 1, 1)), (2, 2), 0, (SOUTH, WEST), 7)
        self.check(((1, 1, 1), (2, 0, 1), (2, 2, 1)), (2, 1), 0, (NORTH, SOUTH, WEST), 8)

    def test_in_corners(self):
        self.check(((0, 1, 1), (1, 0, 1)), (0, 0), 0, (NORTH, EAST), 3)
        self.check(((1, 0, 1), (2, 1, 1)), (2, 0), 0, (NORTH, WEST), 5)
        self.check(((0, 1, 1), (1, 2, 1)), (0, 2), 0, (EAST, SOUTH), 5)

    def test_the_floor_does_not_go_round(self):
        self.check(((0, 2, 1), (2, 0, 1)), (0, 0), 0, (), 0)
        self.check(((0, 0, 1),), (2, 0), 0, (), 0)

    def test_where_a_tile_stands_itself(self):
        for kind in range(len(KINDS)):
            self.check(RING + ((1, 1, kind),), (1, 1), 0, (NORTH, EAST, SOUTH, WEST), 10)
        self.check(((1, 1, 0), (1, 2, 1)), (1, 2), 1, (SOUTH,), 1)
        self.check(((1, 1, 0),), (1, 1), 0, (), 0)

    def test_empty_sides_hold_nothing(self):
        ring = tuple((x, y, 2) for x, y, kind in RING)
        self.check(ring, (1, 1), 2, (), 0)
        self.check(ring, (1, 1), 5, (), 0)
        self.check(ring, (1, 1), 0, (), 0)
        self.check(RING, (1, 1), 2, (), 0)

    def test_no_tile_at_all(self):
        for place in places(BED):
            self.check((), place, 0, (), 0)

    def test_the_standing_counts_and_not_the_seed(self):
        self.check(((0, 0, 0),), (1, 2), 1, (), 0)
        self.check(((0, 0, 0),), (1, 0), 1, (WEST,), 2)

    def test_one_name_at_several_sides(self):
        bed = ((1, (("a", 3),), (("", "a", "a", "a", "a"),)), (2, 2), ())
        self.check(((0, 1, 0), (1, 0, 0)), (0, 0), 0, (NORTH, EAST), 6, bed)
        self.check(((0, 1, 0), (1, 0, 0)), (1, 1), 0, (SOUTH, WEST), 6, bed)

    def test_against_another_way(self):
        for bed, standing in some_beds(80):
            for place in places(bed):
                for kind in range(len(bed[0][2])):
                    sides = plain_sides_held(bed, standing, place, kind)
                    self.check(standing, place, kind, sides, plain_held(bed, standing, place, kind), bed)

    def test_at_the_bounds(self):
        bed = great_bed()
        for place in ((0, 0), (11, 11), (5, 6), (0, 7)):
            for kind in (0, 1, 60, 119):
                sides = plain_sides_held(bed, bed[2], place, kind)
                self.check(bed[2], place, kind, sides, plain_held(bed, bed[2], place, kind), bed)

    def test_a_number_of_no_kind_is_held_by_nothing(self):
        last = (reordered(BED, (1, 2, 3, 4, 5, 0)), reordered_standing(RING, (1, 2, 3, 4, 5, 0)))
        self.check(last[1], (1, 1), 5, (NORTH, EAST, SOUTH, WEST), 10, last[0])
        for kind in (-1, -6, 6, 100):
            self.check(RING, (1, 1), kind, (), 0)
            self.check(last[1], (1, 1), kind, (), 0, last[0])


class GrowingsTest(unittest.TestCase):
    def with_enough(self, enough):
        return ((enough, STICKS, KINDS), BED[1], BED[2])

    def test_on_the_seed_kinds_that_are_alike_too(self):
        self.assertEqual(growings(BED, BED[2]), (
            (0, 1, 1), (0, 1, 3), (0, 1, 4), (1, 0, 1), (1, 0, 3), (1, 0, 4), (2, 1, 1), (2, 1, 3), (2, 1, 4)))

    def test_by_enough_or_more(self):
        where = {1: ((0, 1), (1, 0), (1, 2), (2, 1)), 2: ((0, 1), (1, 0), (2, 1)), 3: ((0, 1), (1, 0)), 4: ((0, 1),)}
        for enough in where:
            kinds = (1, 3, 4, 5)
            told = tuple((x, y, kind) for x, y in where[enough] for kind in kinds if kind != 5 or (x, y) == (1, 2))
            self.assertEqual(growings(self.with_enough(enough), BED[2]), told)

    def test_by_several_sides_together(self):
        # At (0, 0) by 1 and 2, at (1, 1) by 3 and 4.
        standing = ((0, 1, 1), (1, 0, 1))
        self.assertEqual(growings(((3, STICKS, KINDS), (2, 2), ()), standing), ((0, 0, 0), (1, 1, 0)))
        self.assertEqual(growings(((4, STICKS, KINDS), (2, 2), ()), standing), ((1, 1, 0),))

    def test_on_another_standing_than_the_seed(self):
        self.assertEqual(growings(BED, ((0, 0, 0),)), ((1, 0, 1), (1, 0, 3), (1, 0, 4)))
        self.assertEqual(growings(BED, RING), (
            (0, 0, 0), (0, 2, 0), (1, 1, 0), (2, 0, 0), (2, 2, 0)))

    def test_none_where_none_stands(self):
        for bed, standing in some_beds(40) + [(great_bed(), ())]:
            self.assertEqual(growings(bed, ()), ())

    def test_none_where_the_floor_is_full(self):
        full = tuple((x, y, (x + y) % 2) for x, y in places(BED))
        self.assertEqual(growings(BED, full), ())
        self.assertEqual(growings(BED, full[:4] + full[5:]), ((1, 1, 0),))
        great = great_bed()
        self.assertEqual(growings(great, great[2]), ())

    def test_none_off_the_floor(self):
        house = (1, (("a", 4),), (("", "a", "a", "a", "a"),))
        self.assertEqual(growings((house, (1, 1), ((0, 0, 0),)), ((0, 0, 0),)), ())
        self.assertEqual(growings((house, (3, 1), ()), ((0, 0, 0),)), ((1, 0, 0),))
        self.assertEqual(growings((house, (1, 3), ()), ((0, 1, 0),)), ((0, 0, 0), (0, 2, 0)))

    def test_none_where_nothing_sticks(self):
        bed = ((1, (), (("", "", "", "", ""),)), (3, 3), ((1, 1, 0),))
        self.assertEqual(growings(bed, bed[2]), ())

    def test_against_another_way(self):
        for bed, standing in some_beds(80):
            for tiles in (standing, bed[2]):
                self.assertEqual(growings(bed, tiles), plain_growings(bed, tiles))

    def test_at_the_bounds(self):
        sticks = tuple((name, 1) for name in names(240))
        kinds = tuple(("", sticks[k][0], sticks[k + 1][0], sticks[k][0], sticks[k][0]) for k in range(0, 240, 2))
        bed = ((1, sticks, kinds), (12, 12), ())
        standing = tuple((x, y, (12 * x + y) % 120) for x in range(12) for y in range(12) if (x + y) % 2)
        told = growings(bed, standing)
        self.assertEqual(told, plain_growings(bed, standing))
        self.assertEqual(told, tuple(sorted(set(told))))
        self.assertTrue(len(told) >= 60)


class MovedTest(unittest.TestCase):
    """Turned, mirrored, reordered, named otherwise, the same may grow."""

    def test_growings_move_along(self):
        for bed, standing in some_beds(60):
            told = growings(bed, standing)
            order = tuple(range(len(bed[0][2])))[::-1]
            called = tuple(names(len(bed[0][1])))[::-1]
            self.assertEqual(growings(turned(bed), turned_standing(bed, standing)), turned_standing(bed, told))
            self.assertEqual(growings(mirrored(bed), mirrored_standing(bed, standing)), mirrored_standing(bed, told))
            self.assertEqual(
                growings(reordered(bed, order), reordered_standing(standing, order)), reordered_standing(told, order))
            self.assertEqual(growings(renamed(bed, called), standing), told)


class SameTest(unittest.TestCase):
    def test_plain_the_same_twice_and_nothing_changed(self):
        for bed, standing in some_beds(30) + [(BED, RING), ((HOUSE, (3, 3), ()), BED[2])]:
            before = copy.deepcopy((bed, standing))
            told = []
            for step in range(2):
                told.append((
                    growings(bed, standing), sides_held(bed, standing, (0, 0), 0), held(bed, standing, (0, 0), 0)))
            self.assertTrue(is_plain(told[0]))
            self.assertEqual(told[0], told[1])
            self.assertEqual((bed, standing), before)


if __name__ == "__main__":
    unittest.main()
