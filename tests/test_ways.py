"""Points 2 and 24: freest."""

import copy
import itertools
import random
import unittest

from stickytiles.beds import is_bed
from stickytiles.rows import first_end
from stickytiles.shapes import box_bed, is_shape, makes, shape_bed
from stickytiles.ways import freest
from tests.outlines import RING, STAR, box, drawn_shape, moved_shape, shapes_in_the_corner
from tests.reckoning import are_one_piece
from tests.samples import is_plain, names
from tests.waying import (
    can_be, drawn_way, drawn_way_that_can_be, plain_facing, plain_group_of, plain_groups, plain_makes, plain_ways,
    reasons_against, way_of_bed)

LINE_OF_THREE = ((1, 1), (2, 1), (3, 1))
LINE_OF_FIVE = ((1, 2), (2, 2), (3, 2), (4, 2), (5, 2))


class FreestChecks(unittest.TestCase):
    def check(self, shape, way, enough):
        bed = freest(shape, way, enough)
        if not can_be(shape, way):
            self.assertIsNone(bed)
            return
        self.assertTrue(is_bed(bed))
        classes, bonds, seed = way
        house, floor, stands = bed
        self.assertEqual(house[0], enough)
        self.assertEqual(len(house[2]), len(set(classes)))
        self.assertEqual(floor, (max(x for x, y in shape) + 2, max(y for x, y in shape) + 2))
        self.assertEqual(stands, (shape[seed] + (classes[seed],),))
        self.check_names(shape, way, house)

    def check_names(self, shape, way, house):
        groups = plain_groups(shape, way)
        sides = [(number, side) for number in range(len(house[2])) for side in range(4)]
        called = {side: house[2][side[0]][1 + side[1]] for side in sides}
        for side in sides:
            self.assertEqual(called[side] == "", plain_group_of(groups, side) is None)
        for one, other in itertools.combinations(sides, 2):
            if called[one] and called[other]:
                joined = plain_group_of(groups, one) == plain_group_of(groups, other)
                self.assertEqual(called[one] == called[other], joined)
        for pair, bond in zip(plain_facing(shape, way[0]), way[1]):
            if bond:
                self.assertEqual(dict(house[1])[called[pair[0]]], bond)


class ByHandTest(FreestChecks):
    def test_one_place(self):
        for enough in (1, 2):
            bed = freest(((4, 6),), ((0,), (), 0), enough)
            self.assertEqual(bed[1:], ((6, 8), ((4, 6, 0),)))
            self.assertEqual(bed[0][0], enough)
            self.assertEqual([kind[1:] for kind in bed[0][2]], [("", "", "", "")])

    def test_two_places_of_one_class(self):
        bed = freest(((1, 1), (1, 2)), ((0, 0), (2,), 1), 2)
        sides = bed[0][2][0][1:]
        self.assertEqual(bed[2], ((1, 2, 0),))
        self.assertEqual((sides[1], sides[3]), ("", ""))
        self.assertEqual(sides[0], sides[2])
        self.assertEqual(dict(bed[0][1])[sides[0]], 2)
        self.assertIs(makes(bed, ((1, 1), (1, 2))), False)

    def test_bonds_are_numbered_as_pairs_of_places_rise(self):
        # North of (1, 1), east of it, east of (1, 2), north of (2, 1).
        for number, (one, other) in enumerate((((0, 0), (1, 2)), ((0, 1), (2, 3)), ((1, 1), (3, 3)), ((2, 0), (3, 2)))):
            bonds = tuple(int(k == number) for k in range(4))
            bed = freest(box(2, 2), ((0, 1, 2, 3), bonds, 0), 1)
            sides = {(kind, side): bed[0][2][kind][1 + side] for kind in range(4) for side in range(4)}
            self.assertNotEqual(sides[one], "")
            self.assertEqual(sides[one], sides[other])
            self.assertEqual([side for side in sides if sides[side]], sorted((one, other)))

    def test_the_seed_is_of_its_class(self):
        for seed, stands in ((0, (1, 1, 0)), (1, (2, 1, 1)), (2, (3, 1, 0))):
            self.assertEqual(freest(LINE_OF_THREE, ((0, 1, 0), (1, 1), seed), 1)[2], (stands,))

    def test_a_bond_of_nought_between_joined_sides(self):
        # Class 0's east side lies beside class 0's west one twice, once with a bond and once without.
        for bonds in ((0, 1), (1, 0), (0, 2), (2, 0)):
            self.assertEqual(reasons_against(LINE_OF_THREE, ((0, 0, 0), bonds, 0)), ["nought"])
            self.assertIsNone(freest(LINE_OF_THREE, ((0, 0, 0), bonds, 0), max(bonds)))
        for bonds in ((0, 0), (1, 1), (2, 2)):
            self.assertIsNotNone(freest(LINE_OF_THREE, ((0, 0, 0), bonds, 0), 2))

    def test_unlike_bonds_between_joined_sides(self):
        for bonds in ((1, 2), (2, 1)):
            self.assertEqual(reasons_against(LINE_OF_THREE, ((0, 0, 0), bonds, 1)), ["unlike"])
            self.assertIsNone(freest(LINE_OF_THREE, ((0, 0, 0), bonds, 1), 2))
            # Of three classes no two of these sides are joined.
            self.assertIsNotNone(freest(LINE_OF_THREE, ((0, 1, 2), bonds, 1), 2))

    def test_joined_over_several_steps(self):
        # 0 east to 1 west, 1 west to 2 east, 2 east to 3 west: so 0 east and 3 west are joined, and face each other.
        ways = tuple(((1, row), (2, row)) for row in (1, 3, 5))
        shape = tuple(sorted([place for way in ways for place in way] + [(2, 2), (2, 4), (2, 6), (1, 6)]))
        self.assertTrue(is_shape(shape))
        called = {(1, 1): "a", (2, 1): "b", (1, 3): "c", (2, 3): "b", (1, 5): "c", (2, 5): "d", (1, 6): "a"}
        called.update({(2, 6): "d", (2, 2): "e", (2, 4): "f"})
        order = []
        for place in shape:
            if called[place] not in order:
                order.append(called[place])
        classes = tuple(order.index(called[place]) for place in shape)
        pairs = [
            (one, other) for one, other in itertools.combinations(shape, 2)
            if abs(one[0] - other[0]) + abs(one[1] - other[1]) == 1]
        level = {((1, row), (2, row)): 1 for row in (1, 3, 5)}
        for last, right in ((0, False), (1, True), (2, False)):
            bonds = tuple(last if pair == ((1, 6), (2, 6)) else level.get(pair, 0) for pair in pairs)
            self.assertEqual(can_be(shape, (classes, bonds, 0)), right)
            self.assertEqual(freest(shape, (classes, bonds, 0), 2) is not None, right)

    def test_joined_over_several_steps_in_a_line(self):
        # East of 0 and west of 1, east of 0 and west of 0, east of 1 and west of 0: all are joined by then.
        for last, right in ((0, False), (1, True)):
            way = ((0, 0, 1, 0, 1), (1, 1, 1, last), 0)
            self.assertEqual(freest(LINE_OF_FIVE, way, 1) is not None, right)
            self.check(LINE_OF_FIVE, way, 1)

    def test_sides_of_one_name_that_never_face_one_another(self):
        # East of 0 to west of 1, and west of 1 to east of 2: so east of 0 and of 2 have one name.
        shape = ((1, 1), (1, 2), (2, 1), (2, 2))
        bed = freest(shape, ((0, 1, 2, 2), (1, 1, 1, 0), 0), 1)
        kinds = bed[0][2]
        self.assertEqual(kinds[0][2], kinds[1][2])
        self.assertEqual(kinds[0][2], kinds[2][4])
        self.assertNotEqual(kinds[0][1], kinds[0][2])


class DrawnTest(FreestChecks):
    def test_all_ways_of_small_shapes(self):
        seen = {True: 0, False: 0}
        for size, enough in ((1, 1), (1, 2), (2, 1), (2, 2), (3, 1), (3, 2), (4, 1)):
            for shape in shapes_in_the_corner(size):
                for way in plain_ways(shape, enough):
                    self.check(shape, way, enough)
                    seen[can_be(shape, way)] += 1
        self.assertTrue(min(seen.values()) > 100, seen)

    def test_drawn_ways(self):
        chance = random.Random(241)
        seen = {}
        for step in range(1600):
            shape = drawn_shape(chance, 1 + step % 8)
            enough = 1 + step // 8 % 2
            way = drawn_way(chance, shape, enough)
            self.check(shape, way, enough)
            reasons = tuple(reasons_against(shape, way))
            seen[reasons] = seen.get(reasons, 0) + 1
        self.assertEqual(set(seen), {(), ("nought",), ("unlike",), ("nought", "unlike")})
        self.assertTrue(min(seen.values()) > 40, seen)

    def test_drawn_ways_that_can_be_and_one_bond_another_one(self):
        chance = random.Random(242)
        seen = {True: 0, False: 0}
        for step in range(1200):
            shape = drawn_shape(chance, 1 + step % 8)
            enough = 1 + step // 8 % 2
            classes, bonds, seed = way = drawn_way_that_can_be(chance, shape, enough)
            self.assertTrue(can_be(shape, way))
            self.check(shape, way, enough)
            if bonds:
                k = chance.randrange(len(bonds))
                other = chance.choice([bond for bond in range(enough + 1) if bond != bonds[k]])
                changed = (classes, bonds[:k] + (other,) + bonds[k + 1:], seed)
                self.check(shape, changed, enough)
                seen[can_be(shape, changed)] += 1
        self.assertTrue(min(seen.values()) > 100, seen)

    def test_wherever_the_shape_lies(self):
        chance = random.Random(243)
        for shape in shapes_in_the_corner(4):
            for east, north in ((0, 0), (2, 0), (1, 2)):
                moved = moved_shape(shape, east, north)
                if max(max(place) for place in moved) <= 6:
                    self.check(moved, drawn_way_that_can_be(chance, moved, 2), 2)

    def test_each_of_its_own_class(self):
        for shape in (RING, STAR, box(4, 2)):
            for enough in (1, 2):
                size = sum(1 for one, other in itertools.combinations(shape, 2)
                           if abs(one[0] - other[0]) + abs(one[1] - other[1]) == 1)
                way = (tuple(range(len(shape))), (enough,) * size, len(shape) - 1)
                self.check(shape, way, enough)
                self.assertIs(makes(freest(shape, way, enough), shape), True)


def drawn_maker(chance):
    """A bed of a few kinds and the shape that it makes on shape_bed's floor; None where it is none."""
    called = names(chance.randint(2, 5))
    sticks = tuple((name, chance.choice((1, 1, 2, 3, 4))) for name in called)
    some = called + [""] * 5
    kinds = tuple(("", *[chance.choice(some) for side in range(4)]) for kind in range(chance.randint(2, 6)))
    house = (chance.choice((1, 1, 2)), sticks, kinds)
    end = first_end((house, (8, 8), ((3, 3, 0),)))[1]
    shape = tuple(tile[:2] for tile in end)
    if not is_shape(shape) or not 2 <= len(shape) <= 8:
        return None
    floor = (max(x for x, y in shape) + 2, max(y for x, y in shape) + 2)
    bed = (house, floor, ((3, 3, 0),))
    return (bed, shape) if makes(bed, shape) else None


class MakersTest(FreestChecks):
    def made_by_its_way(self, bed, shape):
        self.assertIs(makes(bed, shape), True)
        way = way_of_bed(bed, shape, first_end(bed)[1])
        self.check(shape, way, bed[0][0])
        self.assertIs(makes(freest(shape, way, bed[0][0]), shape), True)
        return way

    def test_beds_of_shapes(self):
        chance = random.Random(244)
        for shape in [RING, STAR] + [drawn_shape(chance, size) for size in range(1, 9) for step in range(8)]:
            way = self.made_by_its_way(shape_bed(shape), shape)
            self.assertEqual(way[0], tuple(range(len(shape))))

    def test_beds_of_boxes(self):
        for wide, high in itertools.product(range(1, 5), repeat=2):
            way = self.made_by_its_way(box_bed(wide, high), box(wide, high))
            self.assertLessEqual(len(set(way[0])), wide + high)

    def test_drawn_beds(self):
        chance = random.Random(245)
        found = [drawn_maker(chance) for step in range(15000)]
        found = [pair for pair in found if pair is not None]
        fewer = 0
        for bed, shape in found:
            self.assertTrue(are_one_piece(shape))
            way = self.made_by_its_way(bed, shape)
            self.assertTrue(plain_makes(freest(shape, way, bed[0][0]), shape))
            fewer += len(set(way[0])) < len(shape)
        self.assertGreater(len(found), 150)
        self.assertGreater(fewer, 20)
        self.assertEqual({bed[0][0] for bed, shape in found}, {1, 2})


class SameTest(unittest.TestCase):
    def test_plain_the_same_twice_and_nothing_changed(self):
        chance = random.Random(246)
        for step in range(60):
            shape = drawn_shape(chance, 1 + step % 8)
            way = (drawn_way if step % 3 else drawn_way_that_can_be)(chance, shape, 2)
            before = copy.deepcopy((shape, way))
            bed = freest(shape, way, 2)
            self.assertTrue(is_plain(bed))
            self.assertEqual(freest(shape, way, 2), bed)
            self.assertEqual((shape, way), before)


if __name__ == "__main__":
    unittest.main()
