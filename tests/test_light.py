"""Points 2, 3 (b) and 16: is_light."""

import copy
import random
import unittest

from stickytiles.holding import growings
from stickytiles.light import is_light
from stickytiles.rows import first_end, grown, is_row
from stickytiles.verdicts import verdict
from tests.growers import (
    FORK, GREAT, HAND_MADE, LARGE_FLOORS, LINE, MIDDLE_FLOORS, RACE, SMALL_FLOORS, SQUARE, SQUARE_END, carpet,
    chains_of, drawn_beds, drawn_mosaics, large_beds, small_beds, snake, spoilt_rows, sum_bed, with_kind_twice,
    with_seed)
from tests.reckoning import all_ends, all_rows, drawn_row, places, plain_growings, plain_is_light
from tests.samples import great_bed, junk, nested, part_at, paths, replaced

SQUARE_ROW = ((0, 1, 2), (1, 0, 1), (1, 1, 3))
LINE_ROW = ((1, 0, 1), (2, 0, 2))


def often_light(count, number):
    """Beds in which rows are often light: sums, winding ways, and each place with a kind of its own."""
    found = drawn_mosaics(count, SMALL_FLOORS + MIDDLE_FLOORS, number)
    return found + [sum_bed(3, 3), sum_bed(4, 5), snake(4, 3, (4, 4)), SQUARE, LINE, chains_of((3, 2, 4), (5, 4))]


class LightChecks(unittest.TestCase):
    def light(self, bed, *rows):
        for row in rows:
            self.assertIs(is_light(bed, row), True, row)

    def heavy(self, bed, *things):
        for thing in things:
            self.assertIs(is_light(bed, thing), False)


class ByHandTest(LightChecks):
    def test_light_rows(self):
        self.light(SQUARE, SQUARE_ROW, ((1, 0, 1), (0, 1, 2), (1, 1, 3)))
        # The kind 3 is held at (1, 0) only by the tile that was put upon the one there.
        self.light(LINE, LINE_ROW)

    def test_without_growings_none_is_light(self):
        full = carpet(4, 3, 1, 2)
        full = with_seed(full, [place + (1,) for place in places(full)])
        weak = ((4, (("a", 3),), (("", "a", "a", "a", "a"),)), (3, 3), ((1, 1, 0),))
        for bed in (with_seed(SQUARE, ()), with_seed(SQUARE, SQUARE_END), full, weak, great_bed()):
            self.light(bed, ())
            self.heavy(bed, ((0, 0, 0),), ((),), [], None)
        for bed in HAND_MADE:
            self.heavy(bed, ())

    def test_rows_that_do_not_end(self):
        for size in range(3):
            self.heavy(SQUARE, SQUARE_ROW[:size])
        self.heavy(LINE, LINE_ROW[:1])

    def test_what_is_no_row(self):
        self.heavy(SQUARE, SQUARE_ROW[::-1], SQUARE_ROW + SQUARE_ROW[:1], SQUARE_ROW[1:], SQUARE_END)
        self.heavy(SQUARE, SQUARE_ROW * 2)
        self.heavy(SQUARE, ((0, 1, 2), (1, 1, 3), (1, 0, 1)), ((0, 1, 1), (1, 0, 1), (1, 1, 3)))
        self.heavy(LINE, LINE_ROW[::-1], ((1, 0, 3), (2, 0, 2)), LINE_ROW + ((3, 0, 2),))

    def test_held_by_more_than_enough(self):
        kinds = (("s", "", "a", "", ""), ("x", "", "", "", "a"))
        for enough in (1, 2, 3, 4):
            for strength in range(enough, 5):
                bed = ((enough, (("a", strength),), kinds), (2, 1), ((0, 0, 0),))
                self.assertIs(is_light(bed, ((1, 0, 1),)), strength == enough)

    def test_held_by_more_only_when_it_is_put(self):
        # Beside two tiles it is held by more than enough, beside one by just enough, whatever comes behind it.
        line = ((1, (("a", 1),), (("", "", "a", "", "a"),)), (3, 1), ((0, 0, 0),))
        self.light(line, ((1, 0, 0), (2, 0, 0)))
        self.heavy(with_seed(line, ((0, 0, 0), (2, 0, 0))), ((1, 0, 0),))
        ring = ((1, (("a", 1),), (("", "a", "a", "a", "a"),)), (2, 2), ((0, 0, 0),))
        for row in all_rows(ring):
            self.heavy(ring, row)

    def test_held_by_one_more_beside_enough(self):
        # At (1, 1) a tile is held from the south by strength and from the west by 1.
        kinds = (("s", "b", "", "", ""), ("m", "", "c", "b", ""), ("t", "d", "", "", ""), ("n", "", "", "d", "c"))
        for strength in (1, 2, 3):
            bed = ((2, (("b", 2), ("c", 1), ("d", strength)), kinds), (2, 2), ((0, 0, 0), (1, 0, 2)))
            self.assertIs(is_light(bed, ((0, 1, 1), (1, 1, 3))), strength == 1)
            self.heavy(bed, ((1, 1, 3), (0, 1, 1)))

    def test_another_kind_held_by_the_seed(self):
        kinds = (("s", "", "a", "", ""), ("x", "", "", "", "a"), ("z", "", "b", "", ""), ("t", "", "", "", "b"))
        for strength in (1, 2, 3):
            bed = ((2, (("a", 2), ("b", strength)), kinds), (3, 1), ((0, 0, 0), (2, 0, 3)))
            self.assertIs(is_light(bed, ((1, 0, 1),)), strength < 2)

    def test_another_kind_held_by_one_that_was_not_put_upon_it(self):
        # What comes to (1, 1) waits for (1, 0), but isn't put upon it: sure, but not light.
        bed = snake(3, 2, (3, 2), 2)
        row = first_end(bed)[0]
        row = tuple(sorted(row, key=lambda tile: tile[2]))
        self.light(bed, row)
        enough, sticks, kinds = bed[0]
        kinds = list(kinds)
        kinds[4] = kinds[4][:3] + ("zz",) + kinds[4][4:]
        for strength in (1, 2):
            other = ((enough, sticks + (("zz", strength),), tuple(kinds) + (("", "zz", "", "", ""),)), bed[1], bed[2])
            self.assertIs(is_light(other, row), strength == 1)
            self.assertEqual(verdict(other)[0], "sure")

    def test_another_kind_held_by_several_together(self):
        # By 1 from the seed and by 1 from what was put upon it: the second one doesn't count.
        kinds = (("s", "", "a", "", ""), ("x", "", "c", "", "a"), ("y", "", "", "", "c"), ("z", "d", "c", "", ""),
                 ("n", "", "", "d", ""))
        bed = ((1, (("a", 1), ("c", 1), ("d", 1)), kinds), (3, 2), ((0, 0, 0),))
        self.light(bed, ((1, 0, 1), (2, 0, 2)))
        two = ((2, (("a", 2), ("c", 2), ("d", 1)), kinds), (3, 2), ((0, 0, 0), (1, 1, 4)))
        self.light(two, ((1, 0, 1), (2, 0, 2)))
        # From the seed above and beside it by 1 and 1: these count.
        two = ((2, (("a", 2), ("c", 1), ("d", 1)), kinds), (3, 2), ((0, 0, 0), (1, 1, 4), (2, 0, 2)))
        self.heavy(two, ((1, 0, 1),))

    def test_kinds_that_are_alike(self):
        for kind in (1, 2, 3):
            self.heavy(with_kind_twice(SQUARE, kind), SQUARE_ROW)
        self.light(with_kind_twice(SQUARE, 0), SQUARE_ROW)

    def test_beds_that_part(self):
        for bed in (FORK, RACE, carpet(3, 1, 1, 2)):
            self.heavy(bed, *all_rows(bed))

    def test_at_the_bounds(self):
        for wide, high in ((7, 7), (12, 12), (12, 3)):
            bed = sum_bed(wide, high)
            row = first_end(bed)[0]
            self.light(bed, row)
            self.heavy(bed, row[:-1], row[::-1], row + row[-1:], row[1:])
            self.heavy(with_kind_twice(bed, row[0][2]), row)
        self.light(snake(12, 10, (12, 12)), first_end(snake(12, 10, (12, 12)))[0])
        row = first_end(carpet(12, 12))[0]
        self.heavy(carpet(12, 12), row)
        self.heavy(carpet(12, 12, 4, 120), row)
        # From the west rim row by row: each tile by 2 and 2, but for the rims, which are the seed.
        rims = [(x, y, 0) for x in range(12) for y in range(12) if x == 0 or y == 0]
        bed = ((4, (("a", 2),), (("o", "a", "a", "a", "a"),)), (12, 12), tuple(rims))
        self.light(bed, tuple((x, y, 0) for x in range(1, 12) for y in range(1, 12)))


class DrawnTest(LightChecks):
    def test_all_rows_of_small_beds(self):
        seen = {True: 0, False: 0}
        for bed in small_beds(200) + drawn_mosaics(120, SMALL_FLOORS, 71):
            for row in all_rows(bed)[:40]:
                right = plain_is_light(bed, row)
                self.assertIs(is_light(bed, row), right)
                seen[right] += 1
        self.assertTrue(min(seen.values()) > 100, seen)

    def test_all_rows_that_end_are_light_or_none_is(self):
        many = 0
        for bed in drawn_mosaics(120, SMALL_FLOORS, 70) + [SQUARE, LINE, sum_bed(3, 3)]:
            rows = [row for row in all_rows(bed) if not plain_growings(bed, bed[2] + row)]
            self.assertEqual(len({is_light(bed, row) for row in rows}), 1)
            many += len(rows) > 2 and is_light(bed, rows[0])
        self.assertTrue(many > 5, many)

    def test_rows_that_end_on_larger_floors(self):
        chance = random.Random(72)
        seen = {True: 0, False: 0}
        for bed in drawn_beds(60, LARGE_FLOORS, 73) + drawn_mosaics(60, MIDDLE_FLOORS, 74) + [sum_bed(5, 6)]:
            row = drawn_row(chance, bed, growings)
            right = plain_is_light(bed, row)
            self.assertIs(is_light(bed, row), right)
            seen[right and len(row) > 2] += 1
        self.assertTrue(min(seen.values()) > 5, seen)

    def test_where_a_row_is_light_the_bed_is_sure(self):
        chance = random.Random(75)
        many = 0
        beds = small_beds(300) + often_light(80, 76) + drawn_beds(60, MIDDLE_FLOORS, 77)
        for bed in beds + [bed for bed, sure in large_beds()]:
            row = drawn_row(chance, bed, growings)
            if is_light(bed, row):
                told = verdict(bed)
                self.assertEqual(told[0], "sure")
                self.assertEqual(grown(bed, told[1]), grown(bed, row))
                many += len(row) > 1
        self.assertTrue(many > 30, many)

    def test_of_beds_that_part_no_row_is_light(self):
        many = 0
        for bed in small_beds(200):
            if len(all_ends(bed)) > 1:
                self.heavy(bed, *all_rows(bed)[:60])
                many += 1
        self.assertTrue(many > 50, many)

    def test_one_thing_done_to_a_row(self):
        chance = random.Random(78)
        seen = {True: 0, False: 0}
        for bed in often_light(40, 79) + small_beds(80):
            row = drawn_row(chance, bed)
            if row:
                for spoilt in spoilt_rows(chance, bed, row):
                    right = plain_is_light(bed, spoilt)
                    self.assertIs(is_light(bed, spoilt), right, spoilt)
                    seen[right] += 1
        self.assertTrue(min(seen.values()) > 20, seen)

    def test_light_rows_spoilt(self):
        chance = random.Random(80)
        for bed in often_light(40, 81):
            row = drawn_row(chance, bed)
            if is_light(bed, row) and row:
                k = chance.randrange(len(row))
                self.heavy(bed, row[:k], row[:k] + row[k + 1:], row + row[k:k + 1], row[:k] + row[k:k + 1] + row[k:])
                self.heavy(bed, row[:k] + (row[k][:2] + (row[k][2] + 1,),) + row[k + 1:])
                put_off = row[:k] + row[k + 1:] + row[k:k + 1]
                self.assertIs(is_light(bed, put_off), plain_is_light(bed, put_off))
                if len(row) > 1:
                    self.assertIs(is_light(bed, row[::-1]), plain_is_light(bed, row[::-1]))


class AnythingTest(LightChecks):
    def test_anything(self):
        for bed in HAND_MADE:
            self.heavy(bed, *junk())

    def test_anything_anywhere_within(self):
        for bed, row in ((SQUARE, SQUARE_ROW), (LINE, LINE_ROW)):
            for path in paths(row):
                self.heavy(bed, *[replaced(row, path, thing) for thing in junk()])

    def test_lists_truths_and_texts_within(self):
        for bed, row in ((SQUARE, SQUARE_ROW), (LINE, LINE_ROW)):
            for path in paths(row):
                part = part_at(row, path)
                if isinstance(part, tuple):
                    self.heavy(bed, replaced(row, path, list(part)), replaced(row, path, dict.fromkeys(part)))
                    self.heavy(bed, replaced(row, path, part + part[:1]), replaced(row, path, (part,)))
                else:
                    others = (str(part), None, (part,), GREAT, -GREAT)
                    self.heavy(bed, *[replaced(row, path, other) for other in others])
                if part in (0, 1):
                    self.heavy(bed, replaced(row, path, bool(part)))
        self.heavy(with_seed(SQUARE, ()), [], {}, "", 0, None, False, ((),), [()])

    def test_nested_sixty_deep(self):
        for wrap in (lambda thing: (thing,), lambda thing: [thing], lambda thing: (thing,) * 3):
            for core in ((), 0, "a", None, SQUARE_ROW):
                deep = nested(58, wrap, core)
                self.heavy(SQUARE, wrap(wrap(deep)), (deep,), SQUARE_ROW + (deep,), SQUARE_ROW[:2] + ((1, 1, deep),))

    def test_a_wrong_thing_behind_a_light_row(self):
        self.heavy(SQUARE, *[SQUARE_ROW + (thing,) for thing in junk()])


class SameTest(LightChecks):
    def test_the_same_twice_and_nothing_changed(self):
        for bed in often_light(20, 82):
            row = first_end(bed)[0]
            for thing in (row, row[:-1], list(row), [list(tile) for tile in row], {"a": [row]}):
                before = copy.deepcopy((bed, thing))
                self.assertIs(is_light(bed, thing), is_light(bed, thing))
                self.assertEqual((bed, thing), before)

    def test_only_this_bed_counts(self):
        self.light(SQUARE, SQUARE_ROW)
        self.heavy(LINE, SQUARE_ROW)
        self.heavy(SQUARE, LINE_ROW)
        self.light(SQUARE, SQUARE_ROW)
        self.assertTrue(is_row(LINE, LINE_ROW) and plain_growings(LINE, LINE[2] + LINE_ROW) == ())


if __name__ == "__main__":
    unittest.main()
