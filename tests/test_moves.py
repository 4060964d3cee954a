"""Point 6: beds and standings turned, mirrored, reordered, named otherwise."""

import copy
import unittest

from stickytiles.beds import is_bed, is_standing
from stickytiles.moves import (
    mirrored, mirrored_standing, renamed, reordered, reordered_standing, turned, turned_standing)
from tests.samples import BED, HOUSE, KINDS, LONG_BED, LONG_STANDING, STICKS, great_bed, is_plain, names, some_beds


def all_pairs():
    great = great_bed()
    return some_beds(80) + [(LONG_BED, LONG_STANDING), (BED, ()), (great, great[2][::-2][::-1])]


def back_order(order):
    return tuple(order.index(k) for k in range(len(order)))


def orders(bed):
    count = len(bed[0][2])
    return [tuple(range(count)), tuple(range(count))[::-1], tuple(range(1, count)) + (0,)]


class TurnedTest(unittest.TestCase):
    def test_places(self):
        bed = (HOUSE, (3, 2), ())
        places = {(0, 0): (1, 0), (1, 0): (1, 1), (2, 0): (1, 2), (0, 1): (0, 0), (1, 1): (0, 1), (2, 1): (0, 2)}
        for (x, y), (new_x, new_y) in places.items():
            self.assertEqual(turned_standing(bed, ((x, y, 3),)), ((new_x, new_y, 3),))
            self.assertEqual(turned((HOUSE, (3, 2), ((x, y, 3),)))[2], ((new_x, new_y, 3),))

    def test_sides(self):
        kinds = turned(BED)[0][2]
        self.assertEqual(kinds[0], ("s", "b", "c", "d", "a"))
        self.assertEqual(kinds[1], ("", "d", "a", "b", "c"))
        self.assertEqual(kinds[5], ("q", "", "a", "", ""))

    def test_a_whole_bed(self):
        kinds = tuple((face, east, south, west, north) for face, north, east, south, west in KINDS)
        self.assertEqual(
            turned(LONG_BED), ((2, STICKS, kinds), (2, 4), ((0, 0, 3), (0, 2, 1), (1, 0, 0), (1, 3, 5))))
        self.assertEqual(turned_standing(LONG_BED, LONG_STANDING), ((0, 0, 2), (0, 3, 0), (1, 1, 4)))

    def test_no_tile(self):
        self.assertEqual(turned_standing(BED, ()), ())
        self.assertEqual(turned((HOUSE, (1, 12), ()))[1:], ((12, 1), ()))

    def test_what_is_told_is_a_bed_and_a_standing(self):
        for bed, standing in all_pairs():
            self.assertTrue(is_bed(turned(bed)))
            self.assertTrue(is_standing(turned(bed), turned_standing(bed, standing)))
            self.assertEqual(turned(bed)[2], turned_standing(bed, bed[2]))

    def test_four_times(self):
        for bed, standing in all_pairs():
            new_bed, new_standing = bed, standing
            for step in range(4):
                new_bed, new_standing = turned(new_bed), turned_standing(new_bed, new_standing)
            self.assertEqual((new_bed, new_standing), (bed, standing))


class MirroredTest(unittest.TestCase):
    def test_places(self):
        bed = (HOUSE, (3, 2), ())
        for x in range(3):
            for y in range(2):
                self.assertEqual(mirrored_standing(bed, ((x, y, 3),)), ((2 - x, y, 3),))
                self.assertEqual(mirrored((HOUSE, (3, 2), ((x, y, 3),)))[2], ((2 - x, y, 3),))

    def test_a_whole_bed(self):
        kinds = tuple((face, north, west, south, east) for face, north, east, south, west in KINDS)
        self.assertEqual(
            mirrored(LONG_BED), ((2, STICKS, kinds), (4, 2), ((0, 0, 5), (1, 1, 1), (3, 0, 0), (3, 1, 3))))
        self.assertEqual(mirrored_standing(LONG_BED, LONG_STANDING), ((0, 1, 0), (2, 0, 4), (3, 1, 2)))
        self.assertEqual(mirrored(BED)[0][2][0], ("s", "a", "d", "c", "b"))

    def test_no_tile(self):
        self.assertEqual(mirrored_standing(BED, ()), ())

    def test_what_is_told_is_a_bed_and_a_standing(self):
        for bed, standing in all_pairs():
            self.assertTrue(is_bed(mirrored(bed)))
            self.assertTrue(is_standing(mirrored(bed), mirrored_standing(bed, standing)))
            self.assertEqual(mirrored(bed)[2], mirrored_standing(bed, bed[2]))

    def test_twice(self):
        for bed, standing in all_pairs():
            once = mirrored(bed)
            self.assertEqual(mirrored(once), bed)
            self.assertEqual(mirrored_standing(once, mirrored_standing(bed, standing)), standing)

    def test_mirrored_between_two_turns(self):
        for bed, standing in all_pairs():
            self.assertEqual(mirrored(turned(mirrored(turned(bed)))), bed)


class ReorderedTest(unittest.TestCase):
    order = (2, 0, 1, 5, 3, 4)

    def test_a_whole_bed(self):
        kinds = (KINDS[2], KINDS[0], KINDS[1], KINDS[5], KINDS[3], KINDS[4])
        self.assertEqual(
            reordered(LONG_BED, self.order),
            ((2, STICKS, kinds), (4, 2), ((0, 0, 1), (0, 1, 4), (2, 1, 2), (3, 0, 3))))
        self.assertEqual(reordered_standing(LONG_STANDING, self.order), ((0, 1, 0), (1, 0, 5), (3, 1, 1)))

    def test_each_tile_is_of_the_kind_that_it_was(self):
        for bed, standing in all_pairs():
            for order in orders(bed):
                kinds = reordered(bed, order)[0][2]
                told = reordered_standing(standing, order)
                self.assertEqual([(x, y, kinds[k]) for x, y, k in told], [(x, y, bed[0][2][k]) for x, y, k in standing])

    def test_one_kind_and_no_tile(self):
        bed = ((1, (), (("", "", "", "", ""),)), (1, 1), ((0, 0, 0),))
        self.assertEqual(reordered(bed, (0,)), bed)
        self.assertEqual(reordered_standing((), (1, 0)), ())

    def test_what_is_told_is_a_bed_and_a_standing(self):
        for bed, standing in all_pairs():
            for order in orders(bed):
                told = reordered(bed, order)
                self.assertTrue(is_bed(told))
                self.assertTrue(is_standing(told, reordered_standing(standing, order)))
                self.assertEqual(told[2], reordered_standing(bed[2], order))

    def test_there_and_back(self):
        for bed, standing in all_pairs():
            for order in orders(bed):
                back = back_order(order)
                self.assertEqual(reordered(reordered(bed, order), back), bed)
                self.assertEqual(reordered_standing(reordered_standing(standing, order), back), standing)


class RenamedTest(unittest.TestCase):
    def test_new_names(self):
        told = renamed(LONG_BED, ("zz", "y", "aaaaaaaa", "m"))
        self.assertEqual(told[0][0], 2)
        self.assertEqual(told[0][1], (("aaaaaaaa", 3), ("m", 4), ("y", 2), ("zz", 1)))
        self.assertEqual(told[0][2][0], ("s", "zz", "y", "aaaaaaaa", "m"))
        self.assertEqual(told[0][2][1], ("", "aaaaaaaa", "m", "zz", "y"))
        self.assertEqual(told[0][2][2], ("0", "", "", "", ""))
        self.assertEqual(told[0][2][5], ("q", "", "", "zz", ""))
        self.assertEqual(told[1:], LONG_BED[1:])

    def test_old_names_exchanged(self):
        told = renamed(BED, ("b", "a", "d", "c"))
        self.assertEqual(told[0][1], (("a", 2), ("b", 1), ("c", 4), ("d", 3)))
        self.assertEqual(told[0][2][0], ("s", "b", "a", "d", "c"))

    def test_old_names_in_a_ring(self):
        told = renamed(BED, ("b", "c", "d", "a"))
        self.assertEqual(told[0][1], (("a", 4), ("b", 1), ("c", 2), ("d", 3)))
        self.assertEqual(told[0][2][0], ("s", "b", "c", "d", "a"))

    def test_no_stick(self):
        bed = ((1, (), (("a", "", "", "", ""),)), (2, 1), ((1, 0, 0),))
        self.assertEqual(renamed(bed, ()), bed)

    def test_faces_stay(self):
        bed = ((1, (("a", 1),), (("a", "a", "", "", ""),)), (1, 1), ())
        self.assertEqual(renamed(bed, ("b",))[0][2], (("a", "b", "", "", ""),))

    def test_there_and_back(self):
        for bed, standing in all_pairs():
            old = [name for name, strength in bed[0][1]]
            for new in (names(len(old)), names(len(old))[::-1], old[::-1], old[1:] + old[:1]):
                told = renamed(bed, tuple(new))
                self.assertTrue(is_bed(told))
                back = tuple(old[new.index(name)] for name, strength in told[0][1])
                self.assertEqual(renamed(told, back), bed)


class SameTest(unittest.TestCase):
    def test_plain_the_same_twice_and_nothing_changed(self):
        for bed, standing in all_pairs():
            before = copy.deepcopy((bed, standing))
            order = orders(bed)[1]
            called = tuple(names(len(bed[0][1])))[::-1]
            told = []
            for step in range(2):
                told.append((
                    turned(bed), mirrored(bed), reordered(bed, order), renamed(bed, called),
                    turned_standing(bed, standing), mirrored_standing(bed, standing),
                    reordered_standing(standing, order)))
            self.assertTrue(is_plain(told[0]))
            self.assertEqual(told[0], told[1])
            self.assertEqual((bed, standing), before)


if __name__ == "__main__":
    unittest.main()
