"""Points 2 and 27: wrong_ones."""

import copy
import random
import unittest

from stickytiles.errors import NoGrowing, TileError
from stickytiles.rows import first_end, grown
from stickytiles.wrongs import wrong_ones
from tests.growers import (
    FORK, GREAT, LARGE_FLOORS, LINE, MIDDLE_FLOORS, SQUARE, carpet, drawn_beds, large_beds, small_beds, spoilt_rows,
    sum_bed, with_seed)
from tests.reckoning import drawn_row, plain_growings
from tests.roughs import all_steps, plain_step, plain_steps
from tests.samples import is_plain


def rough_row(chance, bed, size):
    row = ()
    for step in range(size):
        may = all_steps(bed, bed[2] + row)
        if not may:
            break
        # Wrong ones are rarer: so every other time one of them is drawn, if there is one.
        wrong = [tile for tile in may if plain_step(bed, bed[2] + row, tile) == "wrong"]
        row += (chance.choice(wrong if wrong and step % 2 else may),)
    return row


def wrong_places(steps):
    return tuple(number for number, step in enumerate(steps) if step == "wrong")


class WrongChecks(unittest.TestCase):
    def refused(self, bed, row, number):
        with self.assertRaises(NoGrowing) as caught:
            wrong_ones(bed, row)
        self.assertIs(type(caught.exception), NoGrowing)
        self.assertIsInstance(caught.exception, TileError)
        self.assertEqual(caught.exception.number, number)

    def as_reckoned(self, bed, row):
        steps = plain_steps(bed, bed[2], row)
        if None in steps:
            self.refused(bed, row, steps.index(None))
        else:
            self.assertEqual(wrong_ones(bed, row), wrong_places(steps))
        return None not in steps


class ByHandTest(WrongChecks):
    def test_no_tile(self):
        for bed in (SQUARE, LINE, FORK, carpet(3, 3)):
            self.assertEqual(wrong_ones(bed, ()), ())

    def test_rows_of_growings(self):
        self.assertEqual(wrong_ones(SQUARE, ((0, 1, 2), (1, 0, 1), (1, 1, 3))), ())
        self.assertEqual(wrong_ones(SQUARE, ((1, 0, 1), (0, 1, 2), (1, 1, 3))), ())

    def test_a_wrong_one(self):
        # The corner is held by 1 alone as long as one of its two neighbours lacks; the enough is 2.
        self.assertEqual(wrong_ones(SQUARE, ((0, 1, 2), (1, 1, 3))), (1,))
        self.assertEqual(wrong_ones(SQUARE, ((0, 1, 2), (1, 1, 3), (1, 0, 1))), (1,))
        self.refused(SQUARE, ((1, 1, 3),), 0)
        self.refused(SQUARE, ((0, 1, 2), (1, 1, 3), (1, 1, 3)), 2)

    def test_several_wrong_ones(self):
        bed = ((4, (("a", 1), ("b", 3)), (("", "a", "b", "a", "b"),)), (3, 3), ((1, 1, 0),))
        self.assertEqual(wrong_ones(bed, ((0, 1, 0), (0, 0, 0), (1, 0, 0), (2, 1, 0), (2, 0, 0))), (0, 1, 3))
        self.assertEqual(wrong_ones(bed, ((1, 0, 0), (1, 2, 0))), (0, 1))

    def test_where_enough_is_one_there_are_none(self):
        chance = random.Random(271)
        for bed in (LINE, FORK, carpet(3, 3, 1, 2)):
            for step in range(10):
                self.assertEqual(wrong_ones(bed, rough_row(chance, bed, 9)), ())

    def test_the_least_and_the_most_that_is_wrong(self):
        for enough in (1, 2, 3, 4):
            for strength in (1, 2, 3, 4):
                kinds = (("", "", "a", "", ""), ("", "", "", "", "a"))
                bed = ((enough, (("a", strength),), kinds), (2, 1), ((0, 0, 0),))
                self.assertEqual(wrong_ones(bed, ((1, 0, 1),)), (0,) if strength < enough else ())
                self.refused(bed, ((1, 0, 0),), 0)


class DrawnTest(WrongChecks):
    def beds(self):
        return small_beds(250) + drawn_beds(30, MIDDLE_FLOORS, 272) + [sum_bed(4, 4), carpet(4, 3, 4), sum_bed(3, 5)]

    def test_rough_rows_and_their_beginnings(self):
        chance = random.Random(273)
        seen = 0
        for bed in self.beds():
            row = rough_row(chance, bed, 12)
            told = wrong_ones(bed, row)
            self.assertEqual(told, wrong_places(plain_steps(bed, bed[2], row)))
            for size in range(len(row) + 1):
                self.assertEqual(wrong_ones(bed, row[:size]), tuple(number for number in told if number < size))
            seen += len(told)
        self.assertGreater(seen, 150)

    def test_rows_have_none(self):
        chance = random.Random(274)
        for bed in self.beds():
            row = drawn_row(chance, bed)
            self.assertEqual(wrong_ones(bed, row), ())
            grown(bed, row)

    def test_rows_with_one_thing_done_to_them(self):
        chance = random.Random(275)
        seen = {True: 0, False: 0}
        for bed in self.beds():
            row = rough_row(chance, bed, 8)
            if row:
                others = spoilt_rows(chance, bed, row)
                for other in others[:5] + chance.sample(others[5:], 15):
                    seen[self.as_reckoned(bed, other)] += 1
        self.assertTrue(min(seen.values()) > 150, seen)

    def test_what_is_neither_at_each_place_of_the_row(self):
        chance = random.Random(276)
        for bed in small_beds(30) + [sum_bed(4, 4), carpet(4, 4, 4)]:
            wide, high = bed[1]
            kinds = len(bed[0][2])
            row = rough_row(chance, bed, 6)
            for number in range(len(row) + 1):
                ahead = bed[2] + row[:number]
                for tile in (
                        (wide, 0, 0), (0, high, 0), (-1, 0, 0), (0, -1, 0), (GREAT, 0, 0), (0, -GREAT, 0),
                        *[other[:2] + (kind,) for other in ahead[-2:] for kind in range(kinds)]):
                    self.refused(bed, row[:number] + (tile,) + row[number:], number)
                for spot in [other[:2] for other in row[number:number + 1]]:
                    for kind in (kinds, -1, -kinds, GREAT, -GREAT):
                        self.refused(bed, row[:number] + (spot + (kind,),) + row[number + 1:], number)

    def test_the_first_of_several(self):
        row = ((0, 1, 2), (1, 1, 3), (1, 1, 3), (5, 5, 5), (1, 0, 1))
        self.refused(SQUARE, row, 2)
        self.refused(SQUARE, ((9, 9, 9),) + row, 0)
        # Held by nothing, though wrong ones stand beside it.
        self.refused(SQUARE, ((0, 1, 2), (1, 1, 0)), 1)

    def test_held_by_nothing(self):
        chance = random.Random(277)
        asked = 0
        for bed in self.beds():
            row = rough_row(chance, bed, 5)
            for x in range(bed[1][0]):
                for y in range(bed[1][1]):
                    asked += not self.as_reckoned(bed, row + ((x, y, chance.randrange(len(bed[0][2]))),))
        self.assertGreater(asked, 300)

    def test_from_the_seed(self):
        self.refused(with_seed(SQUARE, ()), ((0, 1, 2),), 0)
        self.assertEqual(wrong_ones(with_seed(SQUARE, ((0, 0, 0), (1, 1, 3))), ((0, 1, 2),)), ())


class LargeTest(WrongChecks):
    def test_on_large_floors(self):
        for bed, sure in large_beds():
            self.assertEqual(wrong_ones(bed, first_end(bed)[0]), ())

    def test_rows_turned_about_on_large_floors(self):
        chance = random.Random(278)
        for bed in [sum_bed(12, 12), carpet(12, 12, 4)] + drawn_beds(6, LARGE_FLOORS, 279):
            row = list(first_end(bed)[0])
            for step in range(3):
                chance.shuffle(row)
                self.as_reckoned(bed, tuple(row))
            # From the last to the first all but the first few lack what they stand upon.
            self.as_reckoned(bed, tuple(sorted(row)))

    def test_a_row_of_wrong_ones_over_the_whole_floor(self):
        bed = carpet(12, 12, 4)
        bed = ((4, (("a", 1),), bed[0][2]), (12, 12), ((0, 0, 0),))
        row = tuple((x, y, 0) for x in range(12) for y in range(12))[1:]
        self.assertEqual(wrong_ones(bed, row), tuple(range(143)))
        self.assertEqual(plain_growings(bed, bed[2]), ())


class SameTest(unittest.TestCase):
    def test_plain_the_same_twice_and_nothing_changed(self):
        chance = random.Random(280)
        for bed in small_beds(20) + [sum_bed(4, 4)]:
            row = rough_row(chance, bed, 8)
            before = copy.deepcopy((bed, row))
            told = wrong_ones(bed, row)
            self.assertTrue(is_plain(told))
            self.assertEqual(wrong_ones(bed, row), told)
            for step in range(2):
                with self.assertRaises(NoGrowing):
                    wrong_ones(bed, row + ((99, 0, 0),))
            self.assertEqual((bed, row), before)


if __name__ == "__main__":
    unittest.main()
