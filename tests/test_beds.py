"""Points 2, 4 and 5: is_house, is_bed, is_standing."""

import copy
import unittest

from stickytiles.beds import is_bed, is_house, is_standing
from tests.samples import (
    BED, HOUSE, KINDS, LETTERS, LONG_BED, LONG_STANDING, STICKS, great_bed, great_house, junk, paths, part_at,
    replaced, some_beds, with_enough, with_kinds, with_sticks)

BARE = ("", "", "", "", "")


class Answers(unittest.TestCase):
    def yes(self, answer, note=None):
        self.assertIs(answer, True, note)

    def no(self, answer, note=None):
        self.assertIs(answer, False, note)


class HouseTest(Answers):
    def test_houses_of_few_and_more(self):
        self.yes(is_house((1, (), (BARE,))))
        self.yes(is_house((1, (("a", 1),), (BARE,))))
        self.yes(is_house((4, (("a", 1),), (("a", "a", "a", "a", "a"),))))
        self.yes(is_house(HOUSE))
        self.yes(is_house(great_house()))

    def test_alike_kinds(self):
        self.yes(is_house((2, (), (BARE, BARE, BARE))))
        self.yes(is_house(with_kinds(KINDS[0], KINDS[0])))

    def test_enough(self):
        for enough in (1, 2, 3, 4):
            self.yes(is_house(with_enough(enough)), enough)
        for enough in (0, 5, -1, 100, True, False, "2", "", None, (2,), [2]):
            self.no(is_house(with_enough(enough)), enough)

    def test_strengths(self):
        for strength in (1, 2, 3, 4):
            self.yes(is_house(with_sticks(("a", strength))), strength)
        for strength in (0, 5, -1, True, False, "1", None, (1,)):
            self.no(is_house(with_sticks(("a", strength))), strength)

    def test_names(self):
        for name in ["a", "z", "abcdefgh", "zzzzzzzz", "aa"] + list(LETTERS):
            self.yes(is_house(with_sticks((name, 1))), name)
        wrong = ("", "abcdefghi", "A", "aB", "a1", "1", "a ", " a", "a-b", "a\n", "\u00e4", "\u00df", "`", "{", None, 1)
        for name in wrong + (b"a", ("a",), ["a"], True):
            self.no(is_house(with_sticks((name, 1))), name)

    def test_sticks_rise_and_are_unlike(self):
        self.yes(is_house(with_sticks(("a", 4), ("ab", 1), ("b", 4), ("ba", 1))))
        self.no(is_house(with_sticks(("b", 1), ("a", 1))))
        self.no(is_house(with_sticks(("a", 1), ("c", 1), ("b", 1))))
        self.no(is_house(with_sticks(("ab", 1), ("a", 1))))
        self.no(is_house(with_sticks(("a", 1), ("a", 1))))
        self.no(is_house(with_sticks(("a", 1), ("a", 2))))
        self.no(is_house(with_sticks(("a", 1), ("b", 1), ("b", 2), ("c", 1))))

    def test_forms_of_sticks(self):
        for stick in (("a",), ("a", 1, 1), (), "a", ["a", 1], (1, "a"), "a1"):
            self.no(is_house(with_sticks(stick)), stick)
        for sticks in ([], [("a", 1)], {"a": 1}, None, "", "a", 0, ("a", 1)):
            self.no(is_house((2, sticks, (BARE,))), sticks)

    def test_faces(self):
        for face in [""] + list(LETTERS + "0123456789"):
            self.yes(is_house(with_kinds((face, "a", "b", "", "d"))), face)
        for face in ("ab", "00", "a ", "A", "-", "#", ".", " ", "\n", "\u00e4", "\u0663", "`", "{", ":", "/", None, 0,
                     b"a", ("a",), False):
            self.no(is_house(with_kinds((face, "a", "b", "", "d"))), face)

    def test_sides(self):
        for place in (1, 2, 3, 4):
            for side in ("", "a", "b", "c", "d"):
                self.yes(is_house(with_kinds(replaced(KINDS[0], (place,), side))), side)
            for side in ("e", "aa", "A", " ", "-", None, 1, False, b"a", ("a",), ["a"], STICKS[0]):
                self.no(is_house(with_kinds(replaced(KINDS[0], (place,), side))), side)

    def test_one_wrong_kind_among_others(self):
        wrong = ("s", "a", "b", "c", "e")
        for kinds in ((wrong,), (wrong, KINDS[0]), (KINDS[0], wrong), (KINDS[0], wrong, KINDS[1])):
            self.no(is_house(with_kinds(*kinds)))

    def test_forms_of_kinds(self):
        for kind in (KINDS[0][:4], KINDS[0] + ("a",), KINDS[0][:1], (), list(KINDS[0]), "sabcd"):
            self.no(is_house(with_kinds(kind)), kind)
        for kinds in ((), [], list(KINDS), None, "", 0, KINDS[0], {BARE: 1}):
            self.no(is_house((2, STICKS, kinds)), kinds)

    def test_forms_of_houses(self):
        for thing in ((), (2,), (2, STICKS), HOUSE + ((),), list(HOUSE), (STICKS, 2, KINDS), (2, KINDS, STICKS), BED):
            self.no(is_house(thing), thing)

    def test_anything(self):
        for thing in junk():
            self.no(is_house(thing))

    def test_anything_anywhere_within(self):
        for path in paths(HOUSE):
            for thing in junk():
                self.no(is_house(replaced(HOUSE, path, thing)), path)

    def test_lists_and_truths_within(self):
        house = (1, (("a", 1),), (("a", "a", "", "a", ""), BARE))
        self.yes(is_house(house))
        for path in paths(house):
            part = part_at(house, path)
            if isinstance(part, tuple):
                self.no(is_house(replaced(house, path, list(part))), path)
            if part == 1:
                self.no(is_house(replaced(house, path, True)), path)


class BedTest(Answers):
    def test_beds(self):
        self.yes(is_bed(BED))
        self.yes(is_bed(LONG_BED))
        self.yes(is_bed(great_bed()))
        for bed, standing in some_beds(60):
            self.yes(is_bed(bed))

    def test_floors(self):
        for floor in ((1, 1), (12, 12), (1, 12), (12, 1), (7, 3)):
            self.yes(is_bed((HOUSE, floor, ())), floor)
        for wrong in (0, 13, -1, 100, True, False, None, "3", (3,)):
            self.no(is_bed((HOUSE, (wrong, 3), ())), wrong)
            self.no(is_bed((HOUSE, (3, wrong), ())), wrong)
        for floor in ((), (3,), (3, 3, 3), [3, 3], 3, "33", None, {3: 3}):
            self.no(is_bed((HOUSE, floor, ())), floor)

    def test_seeds_of_none_and_one_at_each_place(self):
        floor = (4, 3)
        self.yes(is_bed((HOUSE, floor, ())))
        for x in range(4):
            for y in range(3):
                for kind in range(len(KINDS)):
                    self.yes(is_bed((HOUSE, floor, ((x, y, kind),))), (x, y, kind))

    def test_seeds_that_are_none(self):
        seeds = SPOILT_STANDINGS + [None, 0, "", [], {}, (0, 0, 0)]
        for seed in seeds:
            self.no(is_bed((HOUSE, (3, 2), seed)), seed)

    def test_forms_of_beds(self):
        house, floor, seed = BED
        for thing in ((), (house,), (house, floor), BED + (seed,), list(BED), (floor, house, seed), HOUSE):
            self.no(is_bed(thing), thing)

    def test_what_spoils_a_house_spoils_a_bed(self):
        for house in (with_enough(0), with_enough(5), with_kinds(), with_kinds(KINDS[0][:4]), with_sticks(("A", 1)),
                      with_sticks(("b", 1), ("a", 1)), with_kinds(("ab", "", "", "", "")), list(HOUSE), None):
            self.no(is_bed((house, (3, 3), ())), house)

    def test_anything(self):
        for thing in junk():
            self.no(is_bed(thing))

    def test_anything_anywhere_within(self):
        for path in paths(BED):
            for thing in junk():
                self.no(is_bed(replaced(BED, path, thing)), path)

    def test_lists_within(self):
        for path in paths(BED):
            part = part_at(BED, path)
            if isinstance(part, tuple):
                self.no(is_bed(replaced(BED, path, list(part))), path)

    def test_truths_within(self):
        bed = ((1, (("a", 1),), (BARE, BARE)), (2, 2), ((0, 0, 0), (0, 1, 1), (1, 0, 1)))
        self.yes(is_bed(bed))
        for path in paths(bed):
            if part_at(bed, path) in (0, 1):
                self.no(is_bed(replaced(bed, path, bool(part_at(bed, path)))), path)


# On the floor (3, 2) with HOUSE, which has the kinds 0 to 5.
SPOILT_STANDINGS = [
    ((0, 1, 0), (0, 0, 0)),
    ((1, 0, 0), (0, 1, 0)),
    ((0, 0, 0), (2, 0, 0), (1, 0, 0)),
    ((1, 1, 0), (1, 1, 0)),
    ((1, 1, 0), (1, 1, 1)),
    ((0, 0, 0), (1, 1, 0), (1, 1, 2), (2, 0, 0)),
    ((3, 0, 0),), ((0, 2, 0),), ((-1, 0, 0),), ((0, -1, 0),), ((2, 2, 0),), ((12, 12, 0),),
    ((0, 0, 6),), ((0, 0, -1),), ((0, 0, 0), (1, 0, 6)),
    ((0, 0),), ((0, 0, 0, 0),), ((),), ([0, 0, 0],), ("000",), (0, 0, 0),
    ((False, 0, 0),), ((0, True, 0),), ((0, 0, True),), (("0", 0, 0),), ((0, None, 0),), ((0, 0, (0,)),),
    [(0, 0, 0)],
]


class StandingTest(Answers):
    bed = (HOUSE, (3, 2), ((1, 1, 0),))

    def test_standings(self):
        full = tuple((x, y, (x + y) % 6) for x in range(3) for y in range(2))
        for thing in ((), ((1, 1, 0),), ((1, 1, 5),), ((0, 0, 3), (2, 1, 3)), full, full[1:], self.bed[2]):
            self.yes(is_standing(self.bed, thing), thing)
        self.yes(is_standing(LONG_BED, LONG_STANDING))
        for bed, standing in some_beds(60):
            self.yes(is_standing(bed, standing))

    def test_one_tile_at_each_place(self):
        for x in range(-1, 4):
            for y in range(-1, 3):
                for kind in range(-1, 7):
                    right = 0 <= x <= 2 and 0 <= y <= 1 and 0 <= kind <= 5
                    self.assertIs(is_standing(self.bed, ((x, y, kind),)), right, (x, y, kind))

    def test_a_later_kind_may_be_less(self):
        self.yes(is_standing(self.bed, ((0, 0, 5), (0, 1, 4), (1, 0, 3), (1, 1, 2), (2, 0, 1), (2, 1, 0))))

    def test_the_seed_may_lack(self):
        self.yes(is_standing(self.bed, ((0, 0, 1),)))

    def test_spoilt_ones(self):
        for thing in SPOILT_STANDINGS:
            self.no(is_standing(self.bed, thing), thing)

    def test_at_the_bounds(self):
        bed = great_bed()
        standing = tuple((x, y, 119 - kind % 120) for x, y, kind in bed[2])
        self.assertEqual(len(standing), 144)
        self.yes(is_standing(bed, standing))
        self.no(is_standing(bed, replaced(standing, (143, 2), 120)))
        self.no(is_standing(bed, replaced(standing, (143, 0), 12)))
        self.no(is_standing(bed, standing[:143] + standing[142:143]))

    def test_anything(self):
        for thing in junk():
            self.no(is_standing(self.bed, thing))

    def test_anything_anywhere_within(self):
        standing = ((0, 0, 1), (1, 1, 0), (2, 0, 5))
        self.yes(is_standing(self.bed, standing))
        for path in paths(standing):
            for thing in junk():
                self.no(is_standing(self.bed, replaced(standing, path, thing)), path)


class BoundsTest(Answers):
    def test_each_bound(self):
        bed = great_bed()
        self.assertEqual((len(bed[0][1]), len(bed[0][2]), bed[1], len(bed[2])), (240, 120, (12, 12), 144))
        self.yes(is_house(bed[0]))
        self.yes(is_bed(bed))
        self.yes(is_bed((bed[0], bed[1], ())))
        self.yes(is_standing(bed, bed[2]))

    def test_one_thing_otherwise_at_the_far_end(self):
        bed = great_bed()
        self.no(is_house(replaced(bed[0], (1, 239, 1), 5)))
        self.no(is_house(replaced(bed[0], (1, 239), bed[0][1][238])))
        self.no(is_house(replaced(bed[0], (2, 119, 4), "zz")))
        self.no(is_bed(replaced(bed, (2, 143, 2), 120)))


class SameTest(Answers):
    def test_nothing_handed_in_is_changed(self):
        for thing in ([1, [2]], {"a": [1]}, (2, [("a", 1)], [BARE]), ([], {}, set())):
            before = copy.deepcopy(thing)
            is_house(thing)
            is_bed(thing)
            is_standing(BED, thing)
            self.assertEqual(thing, before)

    def test_asked_twice(self):
        for thing in (HOUSE, BED, BED[2], None, (), with_enough(5)):
            self.assertEqual(is_house(thing), is_house(thing))
            self.assertEqual(is_bed(thing), is_bed(thing))
            self.assertEqual(is_standing(BED, thing), is_standing(BED, thing))


if __name__ == "__main__":
    unittest.main()
