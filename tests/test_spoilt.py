"""Points 2, 3 (d), 19 and 20: sound, mended, torn."""

import copy
import functools
import random
import unittest

from stickytiles.beds import is_bed, is_standing
from stickytiles.errors import NotSure
from stickytiles.holding import growings
from stickytiles.rows import first_end, grown, is_row
from stickytiles.spoilt import mended, sound, torn
from stickytiles.verdictlooks import shows_verdict
from stickytiles.verdicts import verdict
from stickytiles.waiting import waits
from tests.growers import (
    FORK, LINE, LINE_END, MIDDLE_FLOORS, RACE, SMALL_FLOORS, SQUARE, SQUARE_END, carpet, chains_of, drawn_beds,
    drawn_mosaics, large_beds, small_beds, snake, sum_bed, with_kind_twice, with_seed)
from tests.reckoning import all_ends, all_standings, drawn_row, places, plain_growings, plain_sound
from tests.samples import great_bed, is_plain, some_beds, some_standing


@functools.lru_cache(None)
def beds():
    found = small_beds(120) + drawn_mosaics(60, SMALL_FLOORS + MIDDLE_FLOORS, 121) + drawn_beds(20, MIDDLE_FLOORS, 122)
    return found + [sum_bed(4, 5), snake(4, 3, (4, 4)), carpet(4, 3), chains_of((3, 2), (4, 3)), carpet(3, 2, 1, 2)]


@functools.lru_cache(None)
def sure_beds():
    return [bed for bed in beds() if verdict(bed)[0] == "sure"] + [sum_bed(12, 12), snake(12, 10, (12, 12))]


def by_places(standing):
    return {tile[:2]: tile[2] for tile in standing}


def spoilt(chance, bed, standing):
    """The standing with tiles taken out, of another kind, put at any place, the seed's among them."""
    kinds = by_places(standing)
    for place in places(bed):
        turn = chance.randrange(8)
        if turn == 0:
            kinds.pop(place, None)
        elif turn == 1:
            kinds[place] = chance.randrange(len(bed[0][2]))
    return tuple(sorted(place + (kind,) for place, kind in kinds.items()))


def spoilt_ones(number):
    chance = random.Random(number)
    for bed in beds():
        yield bed, spoilt(chance, bed, grown(bed, drawn_row(chance, bed, growings)))
        yield bed, spoilt(chance, bed, bed[2])
        yield bed, some_standing(chance, bed[0], bed[1])
    yield from some_beds(80)


class SoundTest(unittest.TestCase):
    def test_by_hand(self):
        self.assertEqual(sound(SQUARE, SQUARE_END), SQUARE_END)
        self.assertEqual(sound(SQUARE, SQUARE_END[1:]), SQUARE_END)
        # Without the tile at (1, 0) nothing holds the one at (1, 1) by enough.
        self.assertEqual(sound(SQUARE, ((0, 0, 0), (0, 1, 2), (1, 1, 3))), SQUARE_END[:2])
        self.assertEqual(sound(SQUARE, ((0, 0, 3), (0, 1, 2), (1, 0, 2), (1, 1, 3))), SQUARE_END[:2])
        self.assertEqual(sound(SQUARE, ((1, 1, 3),)), SQUARE[2])
        self.assertEqual(sound(LINE, ((2, 0, 2),)), LINE[2])
        self.assertEqual(sound(LINE, ((1, 0, 1), (3, 0, 1))), LINE_END[:2])

    def test_of_the_seed_and_of_no_tile(self):
        for bed in beds() + [great_bed(), with_seed(SQUARE, ())]:
            self.assertEqual(sound(bed, bed[2]), bed[2])
            self.assertEqual(sound(bed, ()), bed[2])

    def test_other_tiles_in_the_seed_s_places(self):
        bed = carpet(3, 1, 1, 2)
        self.assertEqual(sound(bed, ((0, 0, 1), (1, 0, 1))), ((0, 0, 1), (1, 0, 0)))
        self.assertEqual(sound(FORK, ((0, 0, 1), (1, 0, 2), (2, 0, 1))), ((0, 0, 0), (1, 0, 2), (2, 0, 1)))

    def test_held_only_by_what_is_not_sound(self):
        # Two tiles hold each other by enough, but nothing leads to them.
        bed = carpet(5, 1, 4)
        self.assertEqual(sound(bed, ((0, 0, 0), (1, 0, 0), (2, 0, 0), (4, 0, 0))), ((0, 0, 0), (1, 0, 0), (2, 0, 0)))
        self.assertEqual(sound(bed, ((0, 0, 0), (3, 0, 0), (4, 0, 0))), ((2, 0, 0), (3, 0, 0), (4, 0, 0)))
        bed = with_seed(carpet(5, 1, 4), ((0, 0, 0),))
        self.assertEqual(sound(bed, ((0, 0, 0), (2, 0, 0), (3, 0, 0), (4, 0, 0))), bed[2])

    def test_against_a_second_way(self):
        seen = []
        for bed, standing in spoilt_ones(123):
            part = sound(bed, standing)
            self.assertEqual(part, plain_sound(bed, standing))
            self.assertTrue(is_standing(bed, part))
            seen.append((min(2, len(part) - len(bed[2])), set(standing) <= set(part)))
        for each in [(size, whole) for size in (0, 1, 2) for whole in (False, True)]:
            self.assertTrue(seen.count(each) > 10, each)

    def test_all_that_rows_come_to_by_its_own_tiles(self):
        chance = random.Random(124)
        for bed in small_beds(80):
            standings = all_standings(bed)
            for standing in [spoilt(chance, bed, chance.choice(sorted(standings))) for step in range(3)]:
                within = [each for each in standings if set(each) <= set(standing) | set(bed[2])]
                self.assertEqual(set(sound(bed, standing)), set().union(*within))
                self.assertIn(sound(bed, standing), standings)

    def test_of_the_sound_part_itself(self):
        for bed, standing in spoilt_ones(125):
            part = sound(bed, standing)
            self.assertEqual(sound(bed, part), part)

    def test_what_has_grown_is_sound(self):
        chance = random.Random(126)
        for bed in beds():
            row = drawn_row(chance, bed, growings)
            for size in range(0, len(row) + 1, 3):
                standing = grown(bed, row[:size])
                self.assertEqual(sound(bed, standing), standing)
                # Nor does it matter whether the seed's tiles are told.
                self.assertEqual(sound(bed, tuple(sorted(row[:size]))), standing)


class MendedTest(unittest.TestCase):
    def test_by_hand(self):
        self.assertEqual(mended(SQUARE, SQUARE_END), ((), ()))
        self.assertEqual(mended(SQUARE, ()), ((), ((0, 1, 2), (1, 0, 1), (1, 1, 3))))
        self.assertEqual(
            mended(SQUARE, ((0, 0, 0), (0, 1, 2), (1, 1, 3))), (((1, 1, 3),), ((1, 0, 1), (1, 1, 3))))
        # What stands in the place of the seed's tile goes off, too.
        self.assertEqual(
            mended(SQUARE, ((0, 0, 3), (0, 1, 2), (1, 0, 2), (1, 1, 3))),
            (((0, 0, 3), (1, 0, 2), (1, 1, 3)), ((1, 0, 1), (1, 1, 3))))
        self.assertEqual(mended(LINE, ((0, 0, 1), (2, 0, 2))), (((0, 0, 1), (2, 0, 2)), ((1, 0, 1), (2, 0, 2))))

    def test_of_beds_that_part(self):
        self.assertEqual(mended(FORK, ((1, 0, 2),)), ((), ((2, 0, 1),)))
        self.assertEqual(mended(FORK, ((2, 0, 2),)), (((2, 0, 2),), ((1, 0, 1),)))
        self.assertEqual(mended(RACE, ()), ((), first_end(RACE)[0]))

    def test_of_the_seed_and_of_no_tile(self):
        for bed in beds():
            self.assertEqual(mended(bed, bed[2]), ((), first_end(bed)[0]))
            self.assertEqual(mended(bed, ()), ((), first_end(bed)[0]))

    def test_what_goes_off_and_what_is_put(self):
        seen = []
        for bed, standing in spoilt_ones(127):
            off, row = mended(bed, standing)
            part = plain_sound(bed, standing)
            self.assertEqual(off, tuple(sorted(set(standing) - set(part))))
            now = part
            for tile in row:
                self.assertEqual(tile, plain_growings(bed, now)[0])
                now = tuple(sorted(now + (tile,)))
            self.assertEqual(plain_growings(bed, now), ())
            in_the_seed_s_place = {tile[:2] for tile in off} & {tile[:2] for tile in bed[2]}
            seen.append((len(off) > 0, len(row) > 0, len(in_the_seed_s_place) > 0))
        self.assertEqual(len(set(seen)), 6)

    def test_a_sure_bed_comes_to_its_end(self):
        chance = random.Random(128)
        for bed in sure_beds():
            end = first_end(bed)[1]
            for standing in (spoilt(chance, bed, end), some_standing(chance, bed[0], bed[1])):
                part = sound(bed, standing)
                off, row = mended(bed, standing)
                self.assertTrue(set(part) <= set(end))
                self.assertTrue(is_row(with_seed(bed, part), row))
                self.assertEqual(tuple(sorted(part + row)), end)
                self.assertEqual(verdict(with_seed(bed, part))[0], "sure")

    def test_at_the_bounds(self):
        bed = great_bed()
        self.assertEqual(mended(bed, bed[2]), ((), ()))
        self.assertEqual(mended(bed, bed[2][::2]), ((), ()))
        carpeted = carpet(12, 12, 4, 120)
        full = tuple(place + (119,) for place in places(carpeted))
        self.assertEqual(mended(carpeted, full), (((6, 6, 119),), ()))


class TornTest(unittest.TestCase):
    def tears(self, chance, bed):
        spots = places(bed)
        some = [tuple(sorted(chance.sample(spots, size))) for size in (1, len(spots) // 2, max(1, len(spots) - 1))]
        ends = [tile[:2] for tile in first_end(bed)[0]]
        return some + [(), tuple(spots), tuple(ends[:1]), tuple(sorted(ends)), tuple(tile[:2] for tile in bed[2])]

    def test_by_hand(self):
        self.assertEqual(torn(SQUARE, ((0, 1), (1, 1))), with_seed(SQUARE, ((0, 0, 0), (1, 0, 1))))
        self.assertEqual(torn(SQUARE, ((0, 0), (1, 0))), with_seed(SQUARE, ((0, 0, 0), (0, 1, 2), (1, 1, 3))))
        self.assertEqual(torn(SQUARE, ()), with_seed(SQUARE, SQUARE_END))
        self.assertEqual(torn(SQUARE, ((0, 0), (0, 1), (1, 0), (1, 1))), SQUARE)
        self.assertEqual(torn(LINE, ((2, 0), (3, 0))), with_seed(LINE, LINE_END[:2]))

    def test_beds_that_part(self):
        for bed in (FORK, RACE, with_kind_twice(SQUARE, 3), carpet(2, 1, 1, 2)):
            for some in ((), ((0, 0),), ((1, 0),), tuple(places(bed))):
                with self.assertRaises(NotSure) as taken:
                    torn(bed, some)
                self.assertIs(type(taken.exception), NotSure)
        for bed in [bed for bed, sure in large_beds() if not sure] + [b for b in beds() if verdict(b)[0] == "parts"]:
            with self.assertRaises(NotSure):
                torn(bed, ())

    def test_less_than_the_end(self):
        chance = random.Random(129)
        for bed in sure_beds():
            end = first_end(bed)[1]
            for some in self.tears(chance, bed):
                new = torn(bed, some)
                self.assertTrue(is_bed(new))
                self.assertEqual(new[:2], bed[:2])
                self.assertEqual(new[2], tuple(tile for tile in end if tile in bed[2] or tile[:2] not in some))

    def test_it_comes_again_or_parts(self):
        chance = random.Random(130)
        words = []
        for bed in sure_beds():
            end = first_end(bed)[1]
            for some in self.tears(chance, bed):
                new = torn(bed, some)
                told = verdict(new)
                self.assertTrue(shows_verdict(new, told))
                if told[0] == "sure":
                    self.assertEqual(grown(new, told[1]), end)
                words.append(told[0])
        self.assertTrue(words.count("parts") > 2 and words.count("sure") > 100)

    def test_one_that_parts_behind_the_tear(self):
        # What is left east of the tear holds another kind.
        self.assertEqual(verdict(torn(LINE, ((1, 0),))), ("parts", (), (1, 0, 1), (1, 0, 3)))
        self.assertEqual(len(all_ends(torn(LINE, ((1, 0),)))), 2)

    def test_if_all_goes_that_waits_for_a_place(self):
        for bed in sure_beds():
            end = first_end(bed)[1]
            for place, some in waits(bed)[:12]:
                new = torn(bed, some)
                told = verdict(new)
                self.assertEqual(told[0], "sure")
                self.assertEqual(grown(new, told[1]), end)
                self.assertEqual(sound(bed, new[2]), new[2])

    def test_where_nothing_grew(self):
        full = with_seed(SQUARE, SQUARE_END)
        for bed in (full, with_seed(SQUARE, ()), great_bed()):
            for some in ((), ((0, 0),), tuple(places(bed))):
                self.assertEqual(torn(bed, some), bed)


class SameTest(unittest.TestCase):
    def test_plain_the_same_twice_and_nothing_changed(self):
        for bed, standing in list(spoilt_ones(131))[:120]:
            before = copy.deepcopy((bed, standing))
            told = [(sound(bed, standing), mended(bed, standing)) for step in range(2)]
            self.assertTrue(is_plain(told[0]))
            self.assertEqual(told[0], told[1])
            self.assertEqual((bed, standing), before)
        for bed in sure_beds()[:60]:
            some = tuple(places(bed)[::2])
            before = copy.deepcopy((bed, some))
            self.assertEqual(torn(bed, some), torn(bed, some))
            self.assertTrue(is_plain(torn(bed, some)))
            self.assertEqual((bed, some), before)


if __name__ == "__main__":
    unittest.main()
