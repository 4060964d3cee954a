"""Points 2, 3 (a) and 11: verdict."""

import copy
import random
import unittest

from stickytiles.holding import growings
from stickytiles.moves import mirrored, renamed, reordered, turned
from stickytiles.rows import first_end, grown, is_row
from stickytiles.verdictlooks import shows_verdict
from stickytiles.verdicts import verdict
from tests.growers import (
    FORK, LARGE_FLOORS, LINE, LINE_END, RACE, SQUARE, SQUARE_END, carpet, drawn_beds, large_beds, small_beds, snake,
    sum_bed, with_kind_twice, with_seed)
from tests.reckoning import (
    all_ends, all_rows, all_standings, drawn_row, places, plain_growings, plain_shows_verdict, waiting_places)
from tests.samples import great_bed, is_plain, names, some_beds


class VerdictChecks(unittest.TestCase):
    def sure(self, bed):
        told = verdict(bed)
        self.assertEqual((len(told), told[0]), (3, "sure"))
        word, row, waits = told
        self.assertTrue(is_row(bed, row))
        self.assertEqual(growings(bed, grown(bed, row)), ())
        self.assertEqual(len(waits), len(row))
        for places_told in waits:
            self.assertEqual(list(places_told), sorted(set(places_told)))
        self.looked_at(bed, told)
        return told

    def parts(self, bed):
        told = verdict(bed)
        self.assertEqual((len(told), told[0]), (4, "parts"))
        word, row, one, other = told
        self.assertTrue(is_row(bed, row))
        self.assertEqual(one[:2], other[:2])
        self.assertLess(one, other)
        may = growings(bed, grown(bed, row))
        self.assertIn(one, may)
        self.assertIn(other, may)
        self.looked_at(bed, told)
        return told

    def looked_at(self, bed, told):
        self.assertTrue(is_plain(told))
        self.assertIs(shows_verdict(bed, told), True)

    def as_known(self, bed, sure):
        return self.sure(bed) if sure else self.parts(bed)


class HandMadeTest(VerdictChecks):
    def test_sure(self):
        self.assertEqual(grown(SQUARE, self.sure(SQUARE)[1]), SQUARE_END)
        self.assertEqual(grown(LINE, self.sure(LINE)[1]), LINE_END)

    def test_parts(self):
        self.assertEqual(self.parts(FORK)[2:], ((1, 0, 1), (1, 0, 2)))
        self.assertEqual(self.parts(RACE)[2:], ((1, 1, 3), (1, 1, 4)))

    def test_without_seed(self):
        for bed in (SQUARE, FORK, sum_bed(7, 7), great_bed(), carpet(12, 12, 1, 120)):
            self.assertEqual(verdict(with_seed(bed, ())), ("sure", (), ()))
            self.looked_at(with_seed(bed, ()), ("sure", (), ()))

    def test_with_a_seed_over_the_whole_floor(self):
        full = carpet(4, 3, 1, 2)
        for bed in (great_bed(), with_seed(SQUARE, SQUARE_END), with_seed(full, [spot + (1,) for spot in places(full)])):
            self.assertEqual(verdict(bed), ("sure", (), ()))
            self.looked_at(bed, ("sure", (), ()))

    def test_with_one_place_left(self):
        full = carpet(4, 3, 4, 2)
        seed = [spot + (0,) for spot in places(full) if spot != (1, 1)]
        self.assertEqual(self.parts(with_seed(full, seed)), ("parts", (), (1, 1, 0), (1, 1, 1)))
        one = (full[0][:2] + (full[0][2][:1],),) + full[1:]
        self.assertEqual(self.sure(with_seed(one, seed)), ("sure", ((1, 1, 0),), (((1, 1),),)))

    def test_kinds_that_are_alike(self):
        self.parts(carpet(2, 1, 1, 2))
        for kind in (1, 2, 3):
            told = self.parts(with_kind_twice(SQUARE, kind))
            self.assertEqual(told[2:], tuple((*SQUARE_END[(0, 2, 1, 3)[kind]][:2], each) for each in (kind, 4)))

    def test_alike_kinds_that_never_grow(self):
        self.sure(with_kind_twice(SQUARE, 0))
        self.sure(with_kind_twice(LINE, 0))
        self.sure(with_kind_twice(LINE, 3))

    def test_with_each_enough(self):
        for enough in (1, 2, 3, 4):
            self.sure(carpet(3, 3, enough))
            self.parts(carpet(3, 3, enough, 2))
            self.sure(snake(4, 2, (4, 3), enough))
            self.parts(with_kind_twice(snake(4, 2, (4, 3), enough), 5))
            # By 3 all around: with enough 4 nothing grows from one tile, but between two.
            house = (enough, (("a", 3),), (("", "a", "a", "a", "a"),) * 2)
            self.as_known((house, (3, 3), ((1, 1, 0),)), enough == 4)
            self.parts((house, (3, 3), ((0, 0, 0), (1, 1, 0))))

    def test_held_together_by_less_each(self):
        kinds = (("s", "", "a", "", ""), ("t", "", "", "", "b"), ("m", "", "b", "", "a"), ("n", "", "b", "", "a"))
        # Where the middle is held at all, two kinds are.
        for enough, one, other, grows in ((2, 1, 1, True), (3, 1, 2, True), (4, 2, 2, True), (4, 1, 2, False)):
            bed = ((enough, (("a", one), ("b", other)), kinds), (3, 1), ((0, 0, 0), (2, 0, 1)))
            self.as_known(bed, not grows)


class SmallFloorsTest(VerdictChecks):
    def test_against_all_rows(self):
        seen = []
        for bed in small_beds(500):
            ends = all_ends(bed)
            told = self.as_known(bed, len(ends) == 1)
            if told[0] == "sure":
                self.assertEqual(grown(bed, told[1]), ends[0])
            else:
                self.assertIn(tuple(sorted(bed[2] + told[1])), all_standings(bed))
                may = plain_growings(bed, bed[2] + told[1])
                self.assertTrue(told[2] in may and told[3] in may)
            self.assertTrue(plain_shows_verdict(bed, told))
            seen.append((told[0], min(3, len(told[1]))))
        for each in [(word, size) for word in ("sure", "parts") for size in range(4)]:
            self.assertTrue(seen.count(each) > 10, (each, seen.count(each)))

    def test_against_rows_themselves(self):
        for bed in [SQUARE, LINE, FORK, RACE, carpet(2, 2), carpet(3, 1, 1, 2), snake(3, 2, (3, 2), 1)]:
            ends = {tuple(sorted(bed[2] + row)) for row in all_rows(bed) if not plain_growings(bed, bed[2] + row)}
            self.assertEqual(verdict(bed)[0], "sure" if len(ends) == 1 else "parts")

    def test_seeds_of_all_sorts(self):
        for bed, standing in some_beds(120):
            if bed[1][0] * bed[1][1] <= 6:
                self.as_known(bed, len(all_ends(bed)) == 1)
            else:
                self.looked_at(bed, verdict(bed))

    def test_places_told_do_wait(self):
        for bed in small_beds(200):
            told = verdict(bed)
            if told[0] == "sure":
                for tile, waits in zip(told[1], told[2]):
                    self.assertIn(tile[:2], waits)
                    self.assertLessEqual(set(waits), set(waiting_places(bed, tile[:2], all_standings(bed))))


class LargeFloorsTest(VerdictChecks):
    def test_known_ones(self):
        for bed, sure in large_beds():
            told = self.as_known(bed, sure)
            if sure:
                self.assertEqual(grown(bed, told[1]), first_end(bed)[1])

    def test_drawn_ones(self):
        chance = random.Random(20)
        seen = []
        for bed in drawn_beds(80, LARGE_FLOORS, 21):
            told = verdict(bed)
            self.looked_at(bed, told)
            seen.append((told[0], len(told[1]) > 4))
            if told[0] == "sure":
                for step in range(3):
                    self.assertEqual(grown(bed, drawn_row(chance, bed, growings)), grown(bed, told[1]))
            else:
                ends = [grown(bed, drawn_row(chance, bed, growings, told[1] + (tile,))) for tile in told[2:]]
                self.assertNotEqual(ends[0], ends[1])
        for each in [(word, long) for word in ("sure", "parts") for long in (False, True)]:
            self.assertTrue(each in seen, each)

    def test_snakes_over_the_whole_floor(self):
        for wide, high, enough in ((7, 7, 1), (12, 3, 2), (10, 12, 1)):
            bed = snake(wide, high, (wide, high), enough)
            told = self.sure(bed)
            self.assertEqual(grown(bed, told[1]), first_end(bed)[1])
            self.assertEqual(len(grown(bed, told[1])), wide * high)


class MovedTest(VerdictChecks):
    def test_moved_beds_are_judged_alike(self):
        for bed in small_beds(80) + [sum_bed(5, 4), with_kind_twice(sum_bed(4, 5), 2), snake(5, 3, (6, 4))]:
            sure = verdict(bed)[0] == "sure"
            order = tuple(range(len(bed[0][2])))[::-1]
            called = tuple(names(len(bed[0][1])))[::-1]
            for moved in (turned(bed), mirrored(bed), reordered(bed, order), renamed(bed, called)):
                self.as_known(moved, sure)


class SameTest(VerdictChecks):
    def test_the_same_twice_and_nothing_changed(self):
        for bed in small_beds(40) + [bed for bed, sure in large_beds()[:5]]:
            before = copy.deepcopy(bed)
            self.assertEqual(verdict(bed), verdict(bed))
            self.assertEqual(verdict(bed), verdict(copy.deepcopy(bed)))
            self.assertEqual(bed, before)


if __name__ == "__main__":
    unittest.main()
