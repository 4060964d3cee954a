"""Points 2 and 9: grown, is_row, first_end."""

import copy
import random
import unittest

from stickytiles.errors import NoGrowing
from stickytiles.holding import growings
from stickytiles.moves import (
    mirrored, mirrored_standing, renamed, reordered, reordered_standing, turned, turned_standing)
from stickytiles.rows import first_end, grown, is_row
from tests.growers import (
    FORK, GREAT, HAND_MADE, LINE, LINE_END, MIDDLE_FLOORS, SQUARE, SQUARE_END, carpet, drawn_beds, large_beds,
    small_beds, snake, spoilt_rows, sum_bed, with_seed)
from tests.reckoning import all_rows, all_standings, drawn_row, places, plain_first_wrong, plain_growings
from tests.samples import great_bed, is_plain, junk, names, nested, part_at, paths, replaced, some_beds

SQUARE_ROW = ((0, 1, 2), (1, 0, 1), (1, 1, 3))


def some_rows(count, number=2):
    """Beds and a row of each that ends, some of them of many tiles."""
    chance = random.Random(number)
    beds = small_beds(count) + drawn_beds(12, MIDDLE_FLOORS, number) + [sum_bed(4, 5), carpet(4, 3), snake(3, 3, (4, 4))]
    return [(bed, drawn_row(chance, bed)) for bed in beds]


class RowChecks(unittest.TestCase):
    def refused(self, bed, row, number):
        with self.assertRaises(NoGrowing) as taken:
            grown(bed, row)
        self.assertEqual(taken.exception.number, number)
        self.assertIs(type(taken.exception.number), int)
        self.assertIs(is_row(bed, row), False)

    def taken(self, bed, row):
        self.assertEqual(grown(bed, row), tuple(sorted(bed[2] + row)))
        self.assertIs(is_row(bed, row), True)

    def as_reckoned(self, bed, row):
        number = plain_first_wrong(bed, row)
        if number is None:
            self.taken(bed, row)
        else:
            self.refused(bed, row, number)


class GrownTest(RowChecks):
    def test_the_empty_row(self):
        for bed in small_beds(40) + [great_bed(), with_seed(SQUARE, ())]:
            self.assertEqual(grown(bed, ()), bed[2])
            self.assertIs(is_row(bed, ()), True)

    def test_by_hand(self):
        self.assertEqual(grown(SQUARE, SQUARE_ROW), SQUARE_END)
        self.assertEqual(grown(SQUARE, ((1, 0, 1), (0, 1, 2), (1, 1, 3))), SQUARE_END)
        self.assertEqual(grown(SQUARE, ((1, 0, 1),)), ((0, 0, 0), (1, 0, 1)))
        self.assertEqual(grown(LINE, ((1, 0, 1), (2, 0, 2))), LINE_END)
        self.assertEqual(grown(FORK, ((1, 0, 2), (2, 0, 2))), ((0, 0, 0), (1, 0, 2), (2, 0, 2)))

    def test_the_first_that_is_no_growing(self):
        self.refused(SQUARE, ((1, 1, 3),), 0)
        self.refused(SQUARE, ((0, 1, 2), (1, 1, 3), (1, 0, 1)), 1)
        self.refused(SQUARE, SQUARE_ROW + ((1, 1, 3),), 3)
        self.refused(SQUARE, ((0, 1, 1), (1, 1, 3), (9, 9, 9)), 0)
        self.refused(SQUARE, ((0, 1, 2), (1, 0, 1), (1, 1, 2), (9, 9, 9)), 2)
        self.refused(SQUARE, ((0, 0, 0),), 0)
        self.refused(LINE, ((1, 0, 3),), 0)
        self.refused(LINE, ((2, 0, 2), (1, 0, 1)), 0)
        self.refused(LINE, ((1, 0, 1), (2, 0, 2), (3, 0, 2)), 2)

    def test_a_place_is_taken_whatever_the_kind(self):
        self.taken(FORK, ((1, 0, 1),))
        self.refused(FORK, ((1, 0, 1), (1, 0, 2)), 1)
        self.refused(FORK, ((1, 0, 2), (1, 0, 1)), 1)
        self.refused(FORK, ((0, 0, 1),), 0)

    def test_held_by_less_by_just_and_by_more_than_enough(self):
        for strength in (1, 2, 3, 4):
            kinds = (("", "", "a", "", ""), ("", "", "", "", "a"))
            for enough in (1, 2, 3, 4):
                bed = ((enough, (("a", strength),), kinds), (2, 1), ((0, 0, 0),))
                if strength >= enough:
                    self.taken(bed, ((1, 0, 1),))
                else:
                    self.refused(bed, ((1, 0, 1),), 0)

    def test_off_the_floor_though_it_would_stick(self):
        bed = carpet(1, 1)
        for tile in ((1, 0, 0), (0, 1, 0), (-1, 0, 0), (0, -1, 0)):
            self.refused(bed, (tile,), 0)

    def test_the_last_kind_is_not_called_from_behind(self):
        bed = carpet(3, 1, 1, 2)
        self.taken(bed, ((0, 0, 1),))
        for kind in (-1, -2, 2, GREAT, -GREAT):
            self.refused(bed, ((0, 0, kind),), 0)

    def test_nothing_grows_without_a_seed(self):
        for tile in ((0, 0, 0), (1, 1, 3), (GREAT, 0, 0)):
            self.refused(with_seed(SQUARE, ()), (tile,), 0)

    def test_nothing_grows_where_the_seed_is_all_over(self):
        full = carpet(2, 2)
        full = with_seed(full, [place + (0,) for place in places(full)])
        for place in places(full):
            self.refused(full, (place + (0,),), 0)

    def test_rows_and_each_beginning(self):
        for bed, row in some_rows(120):
            for size in range(len(row) + 1):
                self.taken(bed, row[:size])

    def test_all_rows_of_small_beds(self):
        for bed in HAND_MADE:
            for row in all_rows(bed):
                self.taken(bed, row)

    def test_one_thing_done_to_a_row(self):
        chance = random.Random(5)
        many = [0, 0]
        for bed, row in some_rows(120):
            if row:
                for spoilt in spoilt_rows(chance, bed, row):
                    self.as_reckoned(bed, spoilt)
                    many[plain_first_wrong(bed, spoilt) is None] += 1
        self.assertTrue(min(many) > 100, many)

    def test_tiles_drawn_without_sense(self):
        chance = random.Random(6)
        for bed in small_beds(60):
            for step in range(10):
                spots = [(chance.randint(-1, 3), chance.randint(-1, 3), chance.randint(-1, 3)) for k in range(4)]
                self.as_reckoned(bed, tuple(spots[:chance.randint(1, 4)]))

    def test_at_the_bounds(self):
        bed = snake(12, 10, (12, 12))
        row = first_end(bed)[0]
        self.assertEqual(len(row), 119)
        self.taken(bed, row)
        self.refused(bed, row[:100] + row[101:], 100)
        called = names(240)
        kinds = (("o", "aa", "aa", "aa", "aa"),) + tuple((("", *called[2 * k:2 * k + 4]) for k in range(1, 119)))
        bed = ((4, tuple((name, 4) for name in called), kinds + (("o", "aa", "aa", "aa", "aa"),)), (12, 12), ((6, 6, 0),))
        row = tuple(tile[:2] + (0 if k % 2 else 119,) for k, tile in enumerate(first_end(carpet(12, 12))[0]))
        self.assertEqual(len(row), 143)
        self.taken(bed, row)
        self.refused(bed, row + row[:1], 143)
        self.refused(bed, row + ((6, 6, 119),), 143)
        self.refused(bed, row[:142] + (row[142][:2] + (120,),), 142)


class IsRowTest(RowChecks):
    def test_anything(self):
        for thing in junk():
            self.assertIs(is_row(SQUARE, thing), False)

    def test_anything_anywhere_within(self):
        for path in paths(SQUARE_ROW):
            for thing in junk():
                self.assertIs(is_row(SQUARE, replaced(SQUARE_ROW, path, thing)), False, path)

    def test_lists_within(self):
        for path in paths(SQUARE_ROW):
            part = part_at(SQUARE_ROW, path)
            if isinstance(part, tuple):
                self.assertIs(is_row(SQUARE, replaced(SQUARE_ROW, path, list(part))), False, path)
        self.assertIs(is_row(SQUARE, [list(tile) for tile in SQUARE_ROW]), False)
        self.assertIs(is_row(SQUARE, []), False)

    def test_truths_and_texts_within(self):
        for path in paths(SQUARE_ROW):
            part = part_at(SQUARE_ROW, path)
            if part in (0, 1):
                self.assertIs(is_row(SQUARE, replaced(SQUARE_ROW, path, bool(part))), False, path)
            if isinstance(part, int):
                self.assertIs(is_row(SQUARE, replaced(SQUARE_ROW, path, str(part))), False, path)
        self.assertIs(is_row(SQUARE, ((False, True, 2),)), False)

    def test_tiles_of_fewer_and_more_parts(self):
        for tile in ((), (0,), (0, 1), (0, 1, 2, 0), (0, 1, 2, 2), ((0, 1), 2), (0, 1, (2,))):
            self.assertIs(is_row(SQUARE, (tile,)), False, tile)
        self.assertIs(is_row(SQUARE, (0, 1, 2)), False)

    def test_nested_sixty_deep(self):
        wraps = (lambda thing: (thing,), lambda thing: [thing], lambda thing: {1: thing}, lambda thing: (thing,) * 3)
        for wrap in wraps:
            for core in ((), 0, "a", None, SQUARE_ROW[0]):
                self.assertIs(is_row(SQUARE, nested(60, wrap, core)), False)
                self.assertIs(is_row(SQUARE, (nested(59, wrap, core),)), False)
                self.assertIs(is_row(SQUARE, ((0, 1, nested(58, wrap, core)),)), False)

    def test_a_wrong_thing_behind_what_is_no_growing(self):
        for thing in junk():
            self.assertIs(is_row(SQUARE, ((1, 1, 3), thing)), False)
            self.assertIs(is_row(SQUARE, SQUARE_ROW + (thing,)), False)


class FirstEndTest(unittest.TestCase):
    def test_by_hand(self):
        self.assertEqual(first_end(SQUARE), (SQUARE_ROW, SQUARE_END))
        self.assertEqual(first_end(LINE), (((1, 0, 1), (2, 0, 2)), LINE_END))
        self.assertEqual(first_end(FORK), (((1, 0, 1),), ((0, 0, 0), (1, 0, 1))))

    def test_places_first_then_kinds(self):
        told = first_end(carpet(3, 3, 1, 2))
        self.assertEqual(told[0], tuple(place + (0,) for place in (
            (0, 1), (0, 0), (0, 2), (1, 0), (1, 2), (2, 0), (2, 1), (2, 2))))

    def test_the_least_each_time_till_there_is_none(self):
        for bed in small_beds(120) + drawn_beds(12, MIDDLE_FLOORS, 9) + [carpet(5, 4), sum_bed(6, 6)]:
            row, end = first_end(bed)
            standing = bed[2]
            for tile in row:
                self.assertEqual(tile, plain_growings(bed, standing)[0])
                standing = tuple(sorted(standing + (tile,)))
            self.assertEqual(end, standing)
            self.assertEqual(plain_growings(bed, end), ())

    def test_beds_without_growings(self):
        full = carpet(3, 2)
        full = with_seed(full, [place + (0,) for place in places(full)])
        weak = ((4, (("a", 3),), (("", "a", "a", "a", "a"),)), (3, 3), ((1, 1, 0),))
        for bed in (with_seed(SQUARE, ()), full, weak, great_bed(), with_seed(LINE, LINE_END)):
            self.assertEqual(first_end(bed), ((), bed[2]))

    def test_on_large_floors(self):
        for bed, sure in large_beds():
            row, end = first_end(bed)
            self.assertEqual(grown(bed, row), end)
            self.assertEqual(growings(bed, end), ())
            self.assertEqual(end, tuple(sorted(bed[2] + row)))

    def test_moved_beds_grow_alike(self):
        for bed in small_beds(40):
            row, end = first_end(bed)
            order = tuple(range(len(bed[0][2])))[::-1]
            called = tuple(names(len(bed[0][1])))
            self.assertEqual(first_end(renamed(bed, called)), (row, end))
            moves = ((turned(bed), lambda part: turned_standing(bed, part)),
                     (mirrored(bed), lambda part: mirrored_standing(bed, part)),
                     (reordered(bed, order), lambda part: reordered_standing(part, order)))
            for new, moved in moves:
                new_row = sum([moved((tile,)) for tile in row], ())
                self.assertEqual(grown(new, new_row), moved(end))
                self.assertIn(first_end(new)[1], all_standings(new))


class SameTest(unittest.TestCase):
    def test_plain_the_same_twice_and_nothing_changed(self):
        for bed, row in some_rows(40):
            before = copy.deepcopy((bed, row))
            told = [(grown(bed, row), is_row(bed, row), first_end(bed)) for step in range(2)]
            self.assertTrue(is_plain(told[0]))
            self.assertEqual(told[0], told[1])
            self.assertEqual((bed, row), before)

    def test_things_asked_are_not_changed(self):
        for thing in ([(0, 1, 2)], [[0, 1, 2]], {"a": [1]}, ([0, 1, 2],)):
            before = copy.deepcopy(thing)
            self.assertEqual(is_row(SQUARE, thing), is_row(SQUARE, thing))
            self.assertEqual(thing, before)

    def test_seeds_of_all_sorts(self):
        for bed, standing in some_beds(60):
            row, end = first_end(bed)
            self.assertEqual(grown(bed, row), end)
            self.assertIsNone(plain_first_wrong(bed, row))


if __name__ == "__main__":
    unittest.main()
