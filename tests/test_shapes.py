"""Points 2, 3 (f) and 23: is_shape, makes, shape_bed, box_bed."""

import copy
import functools
import random
import unittest

from stickytiles.beds import is_bed
from stickytiles.holding import growings
from stickytiles.rows import first_end, grown
from stickytiles.shapes import box_bed, is_shape, makes, shape_bed
from stickytiles.verdictlooks import shows_verdict
from stickytiles.verdicts import verdict
from tests.growers import FORK, LINE, RACE, SQUARE, carpet, chains, large_beds, small_beds, with_kind_twice, with_seed
from tests.outlines import GREAT_RING, RING, STAR, WINDING, box, drawn_shape, parts_of_a_square
from tests.reckoning import all_ends, are_one_piece, drawn_row
from tests.samples import is_plain, junk, nested, part_at, paths, replaced

GREAT = 10 ** 30


@functools.lru_cache(None)
def shapes():
    chance = random.Random(171)
    found = [RING, GREAT_RING, STAR, WINDING, ((1, 1),), ((6, 6),), ((1, 6),), ((6, 1),), ((3, 4),)]
    found += [tuple((x, 3) for x in range(1, size + 1)) for size in range(2, 7)]
    found += [tuple((6, y) for y in range(7 - size, 7)) for size in range(2, 7)]
    found += [box(wide, high) for wide in range(1, 7) for high in range(1, 7) if wide * high <= 12]
    found += [some for some in parts_of_a_square(3, (2, 4)) if are_one_piece(some)]
    return found + [drawn_shape(chance, size) for size in range(1, 13) for step in range(6)]


class IsShapeTest(unittest.TestCase):
    def yes(self, *things):
        for thing in things:
            self.assertIs(is_shape(thing), True, thing)

    def no(self, *things):
        for thing in things:
            self.assertIs(is_shape(thing), False)

    def test_shapes(self):
        self.yes(*shapes())

    def test_how_many_places(self):
        self.no(())
        self.yes(((1, 1),), box(2, 6), box(3, 4), box(6, 2))
        thirteen = tuple(sorted(box(6, 2) + ((1, 3),)))
        self.assertTrue(are_one_piece(thirteen))
        self.no(thirteen, box(6, 3), box(6, 6), box(4, 4))

    def test_falling_and_twice(self):
        for shape in shapes():
            if len(shape) > 1:
                self.no(shape[::-1], shape[1:2] + shape[:1] + shape[2:])
                self.no(shape[:1] + shape[:11], shape[:11] + shape[:1])
        self.no(((1, 1), (1, 1)), ((1, 1), (1, 1), (1, 2)))
        self.no(((1, 2), (1, 1)), ((2, 1), (1, 1)), ((1, 1), (2, 1), (1, 2)))

    def test_numbers_out_of_bounds(self):
        for number in (0, 7, -1, 12, GREAT, -GREAT):
            self.no(((number, 1),), ((1, number),), ((number, number),))
        self.no(((0, 1), (1, 1)), ((6, 1), (7, 1)), ((1, 0), (1, 1)), ((1, 6), (1, 7)), ((-1, 3), (0, 3), (1, 3)))
        self.yes(((6, 1),), ((1, 6),), ((5, 6), (6, 6)))

    def test_pieces(self):
        self.no(((1, 1), (1, 3)), ((1, 1), (3, 1)), ((1, 1), (6, 6)), ((1, 1), (1, 2), (4, 4), (4, 5)))
        self.no(RING[:1] + RING[4:5], tuple(sorted(STAR[:1] + ((6, 1),))))

    def test_pieces_that_touch_at_a_corner_alone(self):
        self.no(((1, 1), (2, 2)), ((1, 2), (2, 1)), ((1, 1), (1, 2), (2, 3)), ((1, 1), (2, 1), (3, 2), (4, 2)))
        self.yes(((1, 1), (1, 2), (2, 2)), ((1, 2), (2, 1), (2, 2)))

    def test_the_last_of_one_column_is_no_neighbour_of_the_first_of_the_next(self):
        self.no(((1, 6), (2, 1)), ((1, 5), (1, 6), (2, 1), (2, 2)))

    def test_rings(self):
        self.yes(RING, GREAT_RING)
        for k in range(len(RING)):
            self.yes(RING[:k] + RING[k + 1:])
        # Without two that lie opposite it is in two pieces.
        self.no(RING[:1] + RING[2:6] + RING[7:], RING[1:7], RING[:3] + RING[5:])

    def test_against_a_second_way(self):
        for some in parts_of_a_square(3) + parts_of_a_square(3, (4, 4)):
            self.assertIs(is_shape(some), are_one_piece(some), some)
        chance = random.Random(172)
        seen = {True: 0, False: 0}
        for step in range(300):
            some = tuple(sorted(chance.sample(box(4, 3), chance.randint(5, 11))))
            self.assertIs(is_shape(some), are_one_piece(some))
            seen[is_shape(some)] += 1
        self.assertTrue(min(seen.values()) > 50, seen)

    def test_lists_truths_and_texts_within(self):
        for shape in (RING, STAR, ((1, 1),), ((1, 1), (1, 2))):
            for path in paths(shape):
                part = part_at(shape, path)
                if isinstance(part, tuple):
                    self.no(*[replaced(shape, path, other) for other in (list(part), (part,), set(part))])
                else:
                    self.no(*[replaced(shape, path, other) for other in (str(part), None, (part,), GREAT)])
                if part == 1:
                    self.no(replaced(shape, path, True))
        self.no([(1, 1)], ([1, 1],), {(1, 1): 1}, ((1, 1, 1),), ((1,),), ((),), (1, 1), "11", ("11",), (((1, 1),),))

    def test_anything(self):
        self.no(*junk())

    def test_anything_anywhere_within(self):
        for path in paths(STAR):
            self.no(*[replaced(STAR, path, thing) for thing in junk()])

    def test_nested_sixty_deep(self):
        wraps = (lambda thing: (thing,), lambda thing: [thing], lambda thing: (thing, thing), lambda thing: (1, thing))
        for wrap in wraps:
            for core in ((), 1, "a", (1, 1)):
                deep = nested(57, wrap, core)
                self.no(wrap(wrap(wrap(deep))), (deep,), STAR + (deep,), ((1, deep),), ((deep, 1),), ((1, 1), deep))


class MakesTest(unittest.TestCase):
    def yes(self, bed, *some):
        for shape in some:
            self.assertIs(makes(bed, shape), True)

    def no(self, bed, *some):
        for shape in some:
            self.assertIs(makes(bed, shape), False)

    def test_by_hand(self):
        way = [(1, 1), (1, 2), (2, 2)]
        self.yes(chains([way], (4, 4)), tuple(way))
        self.no(chains([way], (4, 4)), ((1, 1), (1, 2)), ((1, 1), (1, 2), (2, 2), (2, 3)), ((1, 2), (2, 2)), ((1, 1),))
        self.no(chains([way], (4, 4)), ((1, 1), (2, 1), (2, 2)), ((2, 1), (2, 2), (3, 2)))

    def test_one_tile_that_does_not_grow(self):
        bed = ((1, (), (("", "", "", "", ""),)), (4, 4), ((2, 2, 0),))
        self.yes(bed, ((2, 2),))
        self.no(bed, ((1, 1),), ((2, 3),), ((2, 2), (2, 3)))
        self.no(with_seed(bed, ()), ((2, 2),))

    def test_beds_that_part(self):
        way = [(1, 1), (1, 2), (2, 2)]
        for kind in (1, 2):
            bed = with_kind_twice(chains([way], (4, 4)), kind)
            # All its ends stand at just these places.
            self.assertEqual({tuple(tile[:2] for tile in end) for end in all_ends(bed)}, {tuple(way)})
            self.no(bed, tuple(way))
        for bed in (FORK, RACE):
            for end in all_ends(bed):
                self.no(bed, tuple(tile[:2] for tile in end))

    def test_seeds_of_two_tiles_and_of_none(self):
        way = [(1, 1), (1, 2), (2, 2)]
        bed = chains([way], (4, 4))
        self.no(with_seed(bed, ((1, 1, 0), (1, 2, 1))), tuple(way))
        self.no(with_seed(bed, ((1, 1, 0), (2, 2, 2))), tuple(way))
        self.no(with_seed(bed, ((1, 1, 0), (1, 2, 1), (2, 2, 2))), tuple(way))
        self.no(with_seed(bed, ()), tuple(way), ((1, 1),))

    def test_the_seed_outside(self):
        bed = chains([[(3, 1), (2, 1), (1, 1)]], (5, 3))
        self.yes(bed, ((1, 1), (2, 1), (3, 1)))
        self.no(bed, ((1, 1), (2, 1)), ((2, 1),))
        # Off the places from 1 to 6.
        self.no(chains([[(0, 1), (1, 1), (2, 1)]], (5, 3)), ((1, 1), (2, 1)))

    def test_a_place_too_many_or_too_few(self):
        for shape in shapes()[:60]:
            bed = shape_bed(shape)
            for other in box(4, 4):
                changed = tuple(sorted(set(shape) ^ {other}))
                if changed:
                    self.no(bed, changed)

    def test_only_its_own_shape(self):
        some = shapes()[:40]
        for one in some:
            for other in some:
                self.assertIs(makes(shape_bed(one), other), one == other)

    def test_carpets_and_squares(self):
        self.no(SQUARE, ((1, 1),))
        self.no(LINE, ((1, 1), (2, 1)))
        self.no(carpet(4, 4), box(2, 2), box(3, 3))

    def test_against_all_rows(self):
        seen = {True: 0, False: 0}
        for bed in small_beds(200):
            ends = all_ends(bed)
            shape = tuple(tile[:2] for tile in ends[0])
            right = len(ends) == 1 and len(bed[2]) == 1
            self.assertIs(makes(bed, shape), right)
            self.no(bed, shape + ((12, 12),), shape[1:])
            seen[right] += len(shape) > 1
        self.assertTrue(min(seen.values()) > 20, seen)

    def test_on_large_floors(self):
        for bed, sure in large_beds():
            shape = tuple(tile[:2] for tile in first_end(bed)[1])
            self.assertIs(makes(bed, shape), sure and len(bed[2]) == 1)


class MadeChecks(unittest.TestCase):
    def made(self, bed, shape, floor, most_kinds):
        self.assertTrue(is_bed(bed))
        self.assertEqual(bed[1], floor)
        self.assertLessEqual(len(bed[0][2]), most_kinds)
        self.assertEqual(len(bed[2]), 1)
        self.assertIs(makes(bed, shape), True)
        told = verdict(bed)
        self.assertEqual(told[0], "sure")
        self.assertTrue(shows_verdict(bed, told))
        self.assertEqual(tuple(tile[:2] for tile in grown(bed, told[1])), shape)

    def whatever_comes_first(self, chance, bed, shape):
        row = drawn_row(chance, bed, growings)
        self.assertEqual(tuple(tile[:2] for tile in grown(bed, row)), shape)


class ShapeBedTest(MadeChecks):
    def test_each_is_made(self):
        for shape in shapes():
            floor = (max(x for x, y in shape) + 2, max(y for x, y in shape) + 2)
            self.made(shape_bed(shape), shape, floor, len(shape))

    def test_floors(self):
        self.assertEqual(shape_bed(((1, 1),))[1], (3, 3))
        self.assertEqual(shape_bed(((6, 6),))[1], (8, 8))
        self.assertEqual(shape_bed(((1, 6), (2, 6)))[1], (4, 8))
        # The greatest of all numbers, not the last place's.
        self.assertEqual(shape_bed(((1, 1), (1, 2), (1, 3), (2, 1)))[1], (4, 5))

    def test_whatever_comes_first(self):
        chance = random.Random(173)
        for shape in shapes():
            self.whatever_comes_first(chance, shape_bed(shape), shape)

    def test_against_all_rows(self):
        for shape in parts_of_a_square(2) + [RING[:5] + RING[7:], STAR]:
            if are_one_piece(shape):
                ends = all_ends(shape_bed(shape))
                self.assertEqual([tuple(tile[:2] for tile in end) for end in ends], [shape])


class BoxBedTest(MadeChecks):
    def test_each_is_made(self):
        for wide in range(1, 7):
            for high in range(1, 7):
                self.made(box_bed(wide, high), box(wide, high), (wide + 2, high + 2), wide + high)

    def test_whatever_comes_first(self):
        chance = random.Random(174)
        for wide in range(1, 7):
            for high in range(1, 7):
                for step in range(3):
                    self.whatever_comes_first(chance, box_bed(wide, high), box(wide, high))

    def test_against_all_rows(self):
        for wide, high in ((1, 1), (1, 3), (2, 2), (3, 2), (2, 3), (4, 1), (3, 3)):
            ends = all_ends(box_bed(wide, high))
            self.assertEqual([tuple(tile[:2] for tile in end) for end in ends], [box(wide, high)])


class SameTest(unittest.TestCase):
    def test_plain_the_same_twice_and_nothing_changed(self):
        for shape in shapes()[::7]:
            before = copy.deepcopy(shape)
            bed = shape_bed(shape)
            self.assertEqual(bed, shape_bed(shape))
            self.assertTrue(is_plain(bed))
            kept = copy.deepcopy(bed)
            self.assertIs(makes(bed, shape), makes(bed, shape))
            self.assertEqual((bed, shape), (kept, before))
        for wide, high in ((1, 1), (6, 6), (2, 5)):
            self.assertEqual(box_bed(wide, high), box_bed(wide, high))
            self.assertTrue(is_plain(box_bed(wide, high)))

    def test_things_asked_are_not_changed(self):
        for thing in ([(1, 1)], [[1, 1], [1, 2]], {"a": [1]}, ([1, 1],)):
            before = copy.deepcopy(thing)
            self.assertIs(is_shape(thing), is_shape(thing))
            self.assertEqual(thing, before)


if __name__ == "__main__":
    unittest.main()
