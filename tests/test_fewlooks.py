"""Points 2, 3 (f) and 25: shows_least_kinds."""

import copy
import functools
import random
import unittest

from stickytiles.fewest import least_kinds
from stickytiles.fewlooks import shows_least_kinds
from stickytiles.shapes import makes
from stickytiles.ways import freest
from tests.growers import GREAT
from tests.outlines import box, moved_shape, shapes_in_the_corner
from tests.reckoning import drawn_row
from tests.samples import junk, nested, part_at, paths, replaced
from tests.waying import can_be, plain_against, plain_shows_least_kinds, plain_ways, ways_of_fewer

CORNER = ((1, 1), (1, 2), (2, 1))
BENT = ((4, 5), (5, 5), (5, 6))
CASES = (
    (((3, 2),), 1), (((3, 2),), 2), (box(1, 2), 1), (box(2, 1), 2), (CORNER, 1), (CORNER, 2), (BENT, 2),
    (box(3, 1), 1), (box(1, 3), 2), (box(2, 2), 1), (((1, 1), (1, 2), (1, 3), (2, 2)), 1))
SMALL = (box(1, 2), 1), (box(2, 1), 2), (CORNER, 1), (BENT, 1)


@functools.lru_cache(None)
def told_of(shape, enough):
    return least_kinds(shape, enough)


def thing_unlike(thing, part):
    # Only (1,) among the junk is like a part of what is told, and not all of it can be held against something.
    return part != (1,) or type(thing) is not tuple or len(thing) != 1 or thing[0] is not part[0]


class LookChecks(unittest.TestCase):
    def yes(self, shape, enough, *things):
        for thing in things:
            self.assertIs(shows_least_kinds(shape, enough, thing), True)

    def no(self, shape, enough, *things):
        for thing in things:
            self.assertIs(shows_least_kinds(shape, enough, thing), False)

    def alike(self, shape, enough, *things):
        """As the second way says; told is how many were taken."""
        taken = 0
        for thing in things:
            right = plain_shows_least_kinds(shape, enough, thing)
            self.assertIs(shows_least_kinds(shape, enough, thing), right)
            taken += right
        return taken


class TakenTest(LookChecks):
    def test_what_is_told(self):
        for shape, enough in CASES:
            self.yes(shape, enough, told_of(shape, enough))
            self.assertEqual(self.alike(shape, enough, told_of(shape, enough)), 1)

    def test_other_rows_that_show_it(self):
        chance = random.Random(253)
        others = 0
        for shape, enough in CASES:
            word, way, papers = told_of(shape, enough)
            for step in range(3):
                changed = []
                for other, row in papers:
                    bed = freest(shape, other, enough)
                    long = drawn_row(chance, bed)
                    shown = [long[:k] for k in range(len(long) + 1) if plain_against(bed, shape, long[:k])]
                    new = chance.choice(shown + [row])
                    others += new != row
                    changed.append((other, new))
                self.yes(shape, enough, (word, way, tuple(changed)))
        self.assertGreater(others, 500)

    def test_another_way_of_as_many_classes(self):
        taken = 0
        for shape, enough in CASES:
            word, way, papers = told_of(shape, enough)
            others = [other for other in plain_ways(shape, enough) if len(set(other[0])) == len(set(way[0]))]
            for other in others[:100]:
                right = can_be(shape, other) and makes(freest(shape, other, enough), shape)
                self.assertIs(shows_least_kinds(shape, enough, (word, other, papers)), right)
                taken += right
        self.assertGreater(taken, 20)

    def test_ways_of_more_classes_lack_a_paper(self):
        # All ways of fewer classes that can be must have one, but those that make the shape have none that shows it.
        shape = box(2, 2)
        word, way, papers = told_of(shape, 1)
        more = ((0, 1, 2, 3), (1, 1, 1, 1), 0)
        self.assertIs(makes(freest(shape, more, 1), shape), True)
        self.no(shape, 1, (word, more, papers))
        due = ways_of_fewer(shape, 1, 4)
        rows = dict(papers)
        for row in ((), ((1, 2, 0),)):
            self.no(shape, 1, (word, more, tuple((other, rows.get(other, row)) for other in due)))

    def test_the_shape_of_one_place(self):
        for enough in (1, 2):
            self.yes(((6, 6),), enough, ("least", ((0,), (), 0), ()))
            self.no(((6, 6),), enough, ("least", ((0,), (), 1), ()), ("least", ((1,), (), 0), ()))
            self.no(((6, 6),), enough, ("least", ((0,), (0,), 0), ()), ("least", ((0,), (), 0), (((0,), (), 0), ())))


class PapersTest(LookChecks):
    def each(self):
        for shape, enough in CASES:
            if len(shape) > 1:
                yield shape, enough, told_of(shape, enough)

    def test_left_out_twice_exchanged(self):
        for shape, enough, (word, way, papers) in self.each():
            for k in range(0, len(papers), 1 + len(papers) // 25):
                self.no(shape, enough, (word, way, papers[:k] + papers[k + 1:]))
                self.no(shape, enough, (word, way, papers[:k + 1] + papers[k:]))
                m = (k + 1) % len(papers)
                exchanged = list(papers)
                exchanged[k], exchanged[m] = papers[m], papers[k]
                self.no(shape, enough, (word, way, tuple(exchanged)))
                self.no(shape, enough, (word, way, papers[:k] + (papers[m],) + papers[k + 1:]))
            self.no(shape, enough, (word, way, ()), (word, way, papers[::-1]), (word, way, papers + papers[-1:]))
            self.no(shape, enough, (word, way, papers + ((way, ()),)))

    def test_papers_of_ways_that_can_not_be(self):
        seen = 0
        for shape, enough, (word, way, papers) in self.each():
            count = len(set(way[0]))
            for other in plain_ways(shape, enough):
                if len(set(other[0])) < count and not can_be(shape, other):
                    whole = sorted(papers + ((other, ()),), key=lambda paper: (len(set(paper[0][0])), paper))
                    self.no(shape, enough, (word, way, tuple(whole)))
                    seen += 1
        self.assertGreater(seen, 10)

    def test_the_class_the_bond_or_the_seed_of_its_way_another_one(self):
        for shape, enough, told in self.each():
            for k in range(0, len(told[2]), 1 + len(told[2]) // (2 if len(shape) == 4 else 10)):
                for path in paths(told[2][k][0]):
                    part = part_at(told, (2, k, 0) + path)
                    if isinstance(part, int):
                        for other in (part + 1, part - 1, 1 - part, GREAT, -GREAT, bool(part), str(part), None):
                            if other != part or isinstance(other, bool):
                                self.no(shape, enough, replaced(told, (2, k, 0) + path, other))

    def test_its_row_another_one(self):
        chance = random.Random(254)
        taken = asked = 0
        for shape, enough, told in self.each():
            for k in range(0, len(told[2]), 1 + len(told[2]) // (5 if len(shape) == 4 else 12)):
                way, row = told[2][k]
                bed = freest(shape, way, enough)
                kinds = range(len(bed[0][2]))
                spots = shape + ((0, 0), (1, 0), (bed[1][0] - 1, 1), (bed[1][0], 1), (1, -1), (3, 3), (GREAT, 1))
                tiles = [spot + (kind,) for spot in spots for kind in (*kinds, len(kinds), -1)]
                others = [row[:m] + row[m + 1:] for m in range(len(row))]
                others += [
                    row[:m] + (tile,) + row[m + n:] for tile in tiles for m in range(len(row) + 1) for n in (0, 1)]
                others = chance.sample(others, min(len(others), 10 if len(shape) == 4 else 50))
                others += [row[:m] for m in range(len(row))] + [row[::-1], row + row, row[:1] + row, bed[2] + row]
                for other in others:
                    # All the other papers show it: so it hangs on this one.
                    right = plain_against(bed, shape, other)
                    self.assertIs(shows_least_kinds(shape, enough, replaced(told, (2, k, 1), other)), right)
                    taken += right
                    asked += 1
        self.assertGreater(taken, 100)
        self.assertGreater(asked - taken, 1000)

    def test_rows_that_show_nothing_yet(self):
        # The first way of fewer classes, and each that grows: its empty row shows it only where it is so.
        seen = {True: 0, False: 0}
        for shape, enough, told in self.each():
            for k in range(0, len(told[2]), 1 + len(told[2]) // 40):
                bed = freest(shape, told[2][k][0], enough)
                right = plain_against(bed, shape, ())
                self.assertIs(shows_least_kinds(shape, enough, replaced(told, (2, k, 1), ())), right)
                seen[right] += 1
        self.assertTrue(min(seen.values()) > 20, seen)

    def test_rows_that_fill_the_shape_and_end(self):
        # Of a bed that parts some row may do so: that one shows nothing.
        chance = random.Random(255)
        seen = 0
        for shape in (box(1, 4), box(4, 1)):
            told = told_of(shape, 1)
            for k, (way, row) in enumerate(told[2]):
                bed = freest(shape, way, 1)
                for step in range(20 if len(set(way[0])) == 3 else 0):
                    other = drawn_row(chance, bed)
                    if not plain_against(bed, shape, other):
                        self.no(shape, 1, replaced(told, (2, k, 1), other))
                        seen += 1
        self.assertGreater(seen, 5)

    def test_papers_of_another_shape_or_of_the_other_enough(self):
        shapes = [shape for size in (2, 3) for shape in shapes_in_the_corner(size)] + [BENT, box(2, 2)]
        for one in shapes:
            for other in shapes:
                if len(one) + len(other) < 8:
                    told = told_of(other, 1)
                    self.assertIs(shows_least_kinds(one, 1, told), plain_shows_least_kinds(one, 1, told))
        for shape in shapes[:-1]:
            self.no(shape, 1, told_of(shape, 2))
            self.no(shape, 2, told_of(shape, 1))
            moved = moved_shape(shape, 1, 0)
            if max(max(place) for place in moved) <= 6:
                self.no(moved, 2, told_of(shape, 2))


class WayTest(LookChecks):
    def test_all_other_ways_told(self):
        for shape, enough in SMALL + ((box(3, 1), 1), (box(1, 3), 2)):
            word, way, papers = told_of(shape, enough)
            for other in plain_ways(shape, enough):
                self.alike(shape, enough, (word, other, papers))

    def test_ways_that_can_not_be(self):
        seen = 0
        for shape, enough in CASES:
            word, way, papers = told_of(shape, enough)
            others = [other for other in plain_ways(shape, enough) if not can_be(shape, other)]
            for other in others[:20] + others[-20:]:
                self.no(shape, enough, (word, other, papers), (word, other, ()))
                seen += 1
        self.assertGreater(seen, 100)

    def test_a_way_of_fewer_classes(self):
        for shape, enough in CASES:
            word, way, papers = told_of(shape, enough)
            for k in range(0, len(papers), 1 + len(papers) // 10):
                count = len(set(papers[k][0][0]))
                fewer = tuple(paper for paper in papers if len(set(paper[0][0])) < count)
                self.no(shape, enough, (word, papers[k][0], papers), (word, papers[k][0], fewer))

    def test_numbers_of_the_way(self):
        for shape, enough in CASES:
            told = told_of(shape, enough)
            for path in paths(told[1]):
                part = part_at(told[1], path)
                if isinstance(part, int):
                    for other in (part + 1, part - 1, enough + 1, len(shape), -1, GREAT, -GREAT):
                        self.alike(shape, enough, replaced(told, (1,) + path, other))
                    for other in (bool(part), str(part), None):
                        self.no(shape, enough, replaced(told, (1,) + path, other))

    def test_lengths_of_the_way(self):
        for shape, enough in CASES:
            told = told_of(shape, enough)
            classes, bonds, seed = told[1]
            for way in (
                    (classes + (0,), bonds, seed), (classes[1:], bonds, seed), (classes, bonds + (0,), seed),
                    (classes, bonds + bonds[-1:] + (1,), seed), (classes, bonds), (classes, bonds, seed, seed),
                    (bonds, classes, (seed,)), (classes, bonds, (seed,)), ((classes,), bonds, seed), (), classes):
                self.no(shape, enough, (told[0], way, told[2]))
            if bonds:
                self.no(shape, enough, (told[0], (classes, bonds[1:], seed), told[2]))

    def test_classes_that_are_not_in_their_order(self):
        word, way, papers = told_of(box(2, 1), 1)
        self.no(box(2, 1), 1, (word, ((1, 0), (1,), 0), papers), (word, ((0, 2), (1,), 0), papers))
        self.no(box(2, 1), 1, (word, ((1, 2), (1,), 0), papers), (word, ((-1, 0), (1,), 0), papers))


class AnythingTest(LookChecks):
    def test_words(self):
        for shape, enough in CASES:
            told = told_of(shape, enough)
            for word in ("Least", "least ", " least", "", "l", "most", "sure", b"least", ("least",), 1, None, True):
                self.no(shape, enough, (word,) + told[1:])

    def test_parts_more_or_fewer(self):
        for shape, enough in CASES:
            told = told_of(shape, enough)
            self.no(shape, enough, told + ((),), told[:2], told[:1], told[1:], (told,), told + told, ())
            if told[2]:
                k = len(told[2]) // 2
                way, row = told[2][k]
                for paper in (
                        (way,), (way, row, row), (row, way), (way, (row,)), ((way,), row), way, row, (way, way), ()):
                    self.no(shape, enough, replaced(told, (2, k), paper))

    def test_lists_and_truths_at_each_depth(self):
        for shape, enough in SMALL + ((BENT, 2),):
            told = told_of(shape, enough)
            for path in paths(told)[::7] + paths(told)[:60]:
                part = part_at(told, path)
                if isinstance(part, tuple):
                    for other in (list(part), dict.fromkeys(range(len(part))), str(part), None):
                        self.no(shape, enough, replaced(told, path, other))
                elif part in (0, 1):
                    self.no(shape, enough, replaced(told, path, bool(part)))

    def test_anything(self):
        for shape, enough in SMALL + ((((2, 2),), 2),):
            self.no(shape, enough, *junk())

    def test_anything_anywhere_within(self):
        things = junk()
        for shape, enough in ((box(1, 2), 1), (box(2, 1), 2)):
            told = told_of(shape, enough)
            for path in paths(told):
                part = part_at(told, path)
                for thing in things:
                    # Numbers are asked below; here a few of them would be right.
                    if not (isinstance(part, int) and type(thing) is int) and thing_unlike(thing, part):
                        self.no(shape, enough, replaced(told, path, thing))

    def test_numbers_anywhere_within(self):
        for shape, enough in ((box(1, 2), 1), (box(2, 1), 2)):
            told = told_of(shape, enough)
            for path in paths(told):
                if isinstance(part_at(told, path), int):
                    for number in (-1, 0, 1, 2, 3, 13, GREAT, -GREAT):
                        self.alike(shape, enough, replaced(told, path, number))

    def test_nested_sixty_deep(self):
        told = told_of(CORNER, 1)
        wraps = (lambda thing: (thing,), lambda thing: [thing], lambda thing: (thing, thing), lambda thing: (0, thing))
        for wrap in wraps:
            for core in ((), 0, "least", told[1], ((0,), (), 0)):
                deep = nested(54, wrap, core)
                self.no(CORNER, 1, nested(6, wrap, deep), ("least", deep, ()), ("least", told[1], deep))
                for path in ((2, 0), (2, 0, 0), (2, 0, 1), (2, 5, 1), (1, 0), (1, 1), (1, 2), (1, 0, 0), (0,)):
                    self.no(CORNER, 1, replaced(told, path, deep))
                self.no(CORNER, 1, replaced(told, (2, 0, 1), ((1, 1, deep),)), replaced(told, (2, 0, 1), (deep,)))


class SameTest(unittest.TestCase):
    def test_the_same_twice_and_nothing_changed(self):
        for shape, enough in CASES:
            told = least_kinds(shape, enough)
            for thing in (told, list(told), [list(told[2])], (told[0], list(told[1]), [told[2]]), {"a": [told]}):
                before = copy.deepcopy((shape, thing))
                self.assertIs(shows_least_kinds(shape, enough, thing), shows_least_kinds(shape, enough, thing))
                self.assertEqual((shape, thing), before)


if __name__ == "__main__":
    unittest.main()
