"""Points 2, 3 (f) and 25: least_kinds."""

import copy
import functools
import random
import unittest

from stickytiles.fewest import least_kinds
from stickytiles.fewlooks import shows_least_kinds
from stickytiles.rows import first_end
from stickytiles.shapes import makes
from stickytiles.ways import freest
from tests.outlines import all_shapes, box, moved_shape, shapes_in_the_corner
from tests.samples import is_plain, names
from tests.waying import can_be, plain_against, plain_makes, plain_ways, rows_reasons, way_of_bed, ways_of_fewer

FOURS = (
    box(2, 2), box(1, 4), box(4, 1), ((1, 1), (1, 2), (1, 3), (2, 2)), ((1, 2), (2, 1), (2, 2), (3, 1)),
    ((1, 1), (1, 2), (1, 3), (2, 1)), ((3, 6), (4, 6), (5, 5), (5, 6)), moved_shape(box(2, 2), 4, 3))


@functools.lru_cache(None)
def told_of(shape, enough):
    return least_kinds(shape, enough)


def small_cases():
    found = [(shape, enough) for size in (1, 2, 3) for shape in shapes_in_the_corner(size) for enough in (1, 2)]
    return found + [(shape, 1) for shape in FOURS]


class TupleTest(unittest.TestCase):
    def test_the_told_way_makes_the_shape(self):
        for shape, enough in small_cases():
            word, way, papers = told_of(shape, enough)
            self.assertEqual(word, "least")
            self.assertTrue(can_be(shape, way))
            bed = freest(shape, way, enough)
            self.assertIs(makes(bed, shape), True)
            self.assertTrue(plain_makes(bed, shape))

    def test_no_way_ahead_of_it_does(self):
        for shape, enough in small_cases():
            ways = plain_ways(shape, enough)
            ahead = ways[:ways.index(told_of(shape, enough)[1])]
            for way in ahead:
                if can_be(shape, way):
                    self.assertFalse(plain_makes(freest(shape, way, enough), shape), (shape, way))
                else:
                    self.assertIsNone(freest(shape, way, enough))

    def test_papers_have_just_all_ways_of_fewer_classes(self):
        for shape, enough in small_cases():
            word, way, papers = told_of(shape, enough)
            self.assertEqual([paper[0] for paper in papers], ways_of_fewer(shape, enough, len(set(way[0]))))

    def test_each_row_shows_it(self):
        for shape, enough in small_cases():
            for way, row in told_of(shape, enough)[2]:
                self.assertTrue(plain_against(freest(shape, way, enough), shape, row))

    def test_each_of_the_three_reasons_is_there_alone(self):
        seen = {}
        for shape, enough in small_cases():
            for way, row in told_of(shape, enough)[2]:
                reasons = tuple(rows_reasons(freest(shape, way, enough), shape, row))
                seen[reasons] = seen.get(reasons, 0) + 1
        for reason in ("strays", "short", "forks"):
            self.assertGreater(seen[(reason,)], 10, seen)

    def test_it_is_taken(self):
        for shape, enough in small_cases():
            self.assertIs(shows_least_kinds(shape, enough, told_of(shape, enough)), True)

    def test_wherever_the_shape_lies(self):
        for size in (1, 2, 3):
            for shape in all_shapes(size):
                west, south = min(x for x, y in shape), min(y for x, y in shape)
                corner = moved_shape(shape, 1 - west, 1 - south)
                for enough in (1, 2):
                    told = least_kinds(shape, enough)
                    # The ways speak of the places by their order alone, which moving leaves as it is.
                    there = told_of(corner, enough)
                    self.assertEqual(told[1], there[1])
                    self.assertEqual([paper[0] for paper in told[2]], [paper[0] for paper in there[2]])
                    self.assertIs(makes(freest(shape, told[1], enough), shape), True)

    def test_rows_wherever_the_shape_lies(self):
        for shape in all_shapes(2)[::3] + all_shapes(3)[::9]:
            for enough in (1, 2):
                for way, row in least_kinds(shape, enough)[2]:
                    self.assertTrue(plain_against(freest(shape, way, enough), shape, row))


class HowFewTest(unittest.TestCase):
    def test_one_place(self):
        for enough in (1, 2):
            for shape in all_shapes(1):
                self.assertEqual(least_kinds(shape, enough), ("least", ((0,), (), 0), ()))

    def test_two_places(self):
        # One kind that sticks to itself goes on beyond the shape; without a bond nothing grows.
        self.assertEqual(least_kinds(box(1, 2), 1)[1], ((0, 1), (1,), 0))
        self.assertEqual(least_kinds(box(1, 2), 2)[1], ((0, 1), (2,), 0))
        papers = least_kinds(box(1, 2), 1)[2]
        self.assertEqual([way for way, row in papers], [
            ((0, 0), (0,), 0), ((0, 0), (0,), 1), ((0, 0), (1,), 0), ((0, 0), (1,), 1)])
        self.assertEqual([row for way, row in papers][:2], [(), ()])

    def test_how_many_classes(self):
        counts = {}
        for shape, enough in small_cases():
            counts[(shape, enough)] = len(set(told_of(shape, enough)[1][0]))
        self.assertEqual(counts[(box(2, 2), 1)], 3)
        self.assertEqual(counts[(box(1, 4), 1)], 4)
        self.assertEqual(counts[(box(3, 1), 2)], 3)
        self.assertEqual(counts[(FOURS[-1], 1)], 3)


def drawn_bed(chance, shape, enough, most_kinds):
    called = names(chance.randint(1, 5))
    sticks = tuple((name, chance.choice((enough, chance.randint(1, 4)))) for name in called)
    some = called + [""] * chance.randint(0, 5)
    kinds = tuple(("", *[chance.choice(some) for side in range(4)]) for kind in range(chance.randint(1, most_kinds)))
    floor = (max(x for x, y in shape) + 2, max(y for x, y in shape) + 2)
    seed = chance.choice(shape) + (chance.randrange(len(kinds)),)
    return ((enough, sticks, kinds), floor, (seed,))


class FewerTest(unittest.TestCase):
    def test_drawn_beds_of_fewer_kinds_never_make_it(self):
        chance = random.Random(251)
        asked = 0
        for shape, enough in small_cases():
            count = len(set(told_of(shape, enough)[1][0]))
            for step in range(400 if count > 1 else 0):
                bed = drawn_bed(chance, shape, enough, count - 1)
                self.assertIs(makes(bed, shape), False)
                asked += 1
        self.assertGreater(asked, 5000)

    def test_drawn_beds_of_as_many_kinds_sometimes_do(self):
        # So the draw above isn't in vain; and what makes it has a way, whose freest bed does, too.
        chance = random.Random(252)
        made = 0
        for shape, enough in small_cases():
            count = len(set(told_of(shape, enough)[1][0]))
            for step in range(400):
                bed = drawn_bed(chance, shape, enough, count)
                if makes(bed, shape):
                    made += 1
                    way = way_of_bed(bed, shape, first_end(bed)[1])
                    self.assertIs(makes(freest(shape, way, enough), shape), True)
        self.assertGreater(made, 100)


class SameTest(unittest.TestCase):
    def test_plain_the_same_twice_and_nothing_changed(self):
        for shape, enough in small_cases()[::3]:
            before = copy.deepcopy(shape)
            told = least_kinds(shape, enough)
            self.assertTrue(is_plain(told))
            self.assertEqual(least_kinds(shape, enough), told)
            self.assertEqual(shape, before)


if __name__ == "__main__":
    unittest.main()
