"""Points 2, 3 (b), 13, 14 and 15: waits, first_sides, turns."""

import copy
import functools
import random
import unittest

from stickytiles.errors import NotSure
from stickytiles.holding import growings
from stickytiles.rows import first_end, grown
from stickytiles.verdicts import verdict
from stickytiles.waiting import first_sides, turns, waits
from tests.growers import (
    FORK, LINE, RACE, SMALL_FLOORS, SQUARE, SQUARE_END, carpet, chains, drawn_beds, drawn_mosaics, forks_of, large_beds,
    small_beds, snake, snake_places, sum_bed, with_kind_twice, with_seed)
from tests.reckoning import (
    all_ends, drawn_row, fewest_turns, places, plain_first_sides, plain_growings, plain_waits)
from tests.samples import great_bed, is_plain, some_beds

FLOORS = ((5, 5), (12, 3), (3, 12))


@functools.lru_cache(None)
def sure_small_beds(count):
    beds = small_beds(count) + drawn_mosaics(count // 2, SMALL_FLOORS, 60)
    return [bed for bed in beds if len(all_ends(bed)) == 1]


@functools.lru_cache(None)
def sure_larger_beds():
    found = [bed for bed in drawn_beds(160, FLOORS, 61) if verdict(bed)[0] == "sure" and len(first_end(bed)[0]) > 3]
    found += [bed for bed in drawn_mosaics(24, FLOORS, 64) if len(first_end(bed)[0]) > 3]
    for wide, high in FLOORS:
        found += [sum_bed(wide, high), carpet(wide, high), snake(wide, high, (wide, high), 2)]
    return found


def all_grown():
    """Sure beds on which nothing grows."""
    full = carpet(3, 2)
    full = with_seed(full, [place + (0,) for place in places(full)])
    weak = ((4, (("a", 3),), (("", "a", "a", "a", "a"),)), (3, 3), ((1, 1, 0),))
    return (with_seed(SQUARE, ()), with_seed(SQUARE, SQUARE_END), full, weak, great_bed())


class RefusedTest(unittest.TestCase):
    def test_beds_that_part(self):
        beds = [FORK, RACE, with_kind_twice(SQUARE, 3), carpet(2, 1, 1, 2), forks_of((2, 1))]
        beds += [bed for bed, sure in large_beds() if not sure]
        beds += [bed for bed in small_beds(80) if len(all_ends(bed)) > 1]
        for bed in beds:
            for ask in (waits, first_sides, turns):
                with self.assertRaises(NotSure) as taken:
                    ask(bed)
                self.assertIs(type(taken.exception), NotSure)

    def test_sure_ones_are_not_refused(self):
        for bed in sure_small_beds(80) + [bed for bed, sure in large_beds() if sure]:
            for ask in (waits, first_sides, turns):
                self.assertIs(type(ask(bed)), tuple)

    def test_where_nothing_grows(self):
        for bed in all_grown():
            self.assertEqual((waits(bed), first_sides(bed), turns(bed)), ((), (), ()))


class WaitsTest(unittest.TestCase):
    def test_by_hand(self):
        self.assertEqual(
            waits(SQUARE), (((0, 1), ((0, 1), (1, 1))), ((1, 0), ((1, 0), (1, 1))), ((1, 1), ((1, 1),))))
        self.assertEqual(waits(LINE), (((1, 0), ((1, 0), (2, 0))), ((2, 0), ((2, 0),))))

    def test_two_ways_to_one_place(self):
        # At (0, 0) a tile may come from either side, so it waits for none but itself.
        bed = carpet(2, 2)
        self.assertEqual(waits(bed), tuple((place, (place,)) for place in ((0, 0), (0, 1), (1, 0))))

    def test_along_a_snake(self):
        way = snake_places(4, 3)
        told = dict(waits(snake(4, 3, (5, 4))))
        self.assertEqual(told, {place: tuple(sorted(way[k:])) for k, place in enumerate(way) if k > 0})

    def test_between_two_rims(self):
        for wide, high in FLOORS + ((12, 12),):
            told = waits(sum_bed(wide, high))
            self.assertEqual(told, tuple(
                ((x, y), tuple((u, v) for u in range(x + 1) for v in range(y, high)))
                for x in range(wide - 1) for y in range(1, high)))

    def test_seeds_of_several_tiles(self):
        # From both ends of a line: the middle is come to from either.
        bed = with_seed(carpet(5, 1), ((0, 0, 0), (4, 0, 0)))
        self.assertEqual(waits(bed), tuple(((x, 0), ((x, 0),)) for x in (1, 2, 3)))

    def test_against_all_rows(self):
        sizes = []
        for bed in sure_small_beds(400):
            told = waits(bed)
            self.assertEqual(told, plain_waits(bed))
            sizes += [len(some) for place, some in told]
        self.assertTrue(min(sizes.count(size) for size in (1, 2, 3, 4)) > 10)

    def test_seeds_of_all_sorts(self):
        for bed, standing in some_beds(160):
            if bed[1][0] * bed[1][1] <= 6 and len(all_ends(bed)) == 1:
                self.assertEqual(waits(bed), plain_waits(bed))

    def test_against_drawn_rows(self):
        chance = random.Random(62)
        for bed in sure_larger_beds():
            told = dict(waits(bed))
            for step in range(4):
                row = drawn_row(chance, bed, growings)
                turn = {tile[:2]: number for number, tile in enumerate(row)}
                self.assertEqual(sorted(turn), list(told))
                for place, some in told.items():
                    self.assertTrue(all(turn[place] <= turn[other] for other in some))

    def test_what_does_not_wait_is_put_without(self):
        chance = random.Random(63)
        for bed in sure_larger_beds():
            for place, some in chance.sample(waits(bed), 4):
                row = self.row_without(chance, bed, place)
                ahead = {tile[:2] for tile in row}
                self.assertEqual({tile[:2] for tile in first_end(bed)[0]} - ahead, set(some))

    def row_without(self, chance, bed, place):
        """A row that goes as far as it can without a tile there."""
        return drawn_row(chance, bed, lambda bed, standing: [
            tile for tile in growings(bed, standing) if tile[:2] != place])

    def test_rising(self):
        for bed in sure_small_beds(80) + sure_larger_beds():
            told = waits(bed)
            self.assertEqual(list(told), sorted(set(told)))
            seeds = {tile[:2] for tile in bed[2]}
            self.assertEqual([place for place, some in told], [
                tile[:2] for tile in first_end(bed)[1] if tile[:2] not in seeds])
            for place, some in told:
                self.assertIn(place, some)
                self.assertEqual(list(some), sorted(set(some)))


class FirstSidesTest(unittest.TestCase):
    def test_by_hand(self):
        self.assertEqual(first_sides(SQUARE), (
            (0, 1, 2, (2,), (1,), 2), (1, 0, 1, (3,), (0,), 2), (1, 1, 3, (2, 3), (), 2)))
        self.assertEqual(first_sides(LINE), ((1, 0, 1, (3,), (1,), 1), (2, 0, 2, (3,), (), 1)))

    def test_sides_that_do_not_stick(self):
        # The snake comes back above itself: there it waits for what is below it, though nothing sticks.
        self.assertEqual(first_sides(snake(3, 2, (3, 2), 3)), (
            (0, 1, 5, (1, 2), (), 3), (1, 0, 1, (3,), (0, 1), 3), (1, 1, 4, (1, 2), (3,), 3),
            (2, 0, 2, (3,), (0,), 3), (2, 1, 3, (2,), (3,), 3)))

    def test_the_strength_at_the_ins_alone(self):
        # At (0, 0) either side may come first: by none of them it is held first.
        self.assertEqual(first_sides(carpet(2, 2)), (
            (0, 0, 0, (), (), 0), (0, 1, 0, (1,), (), 4), (1, 0, 0, (0,), (), 4)))
        # In the end the tile at (1, 0) is held by the one behind it, too.
        self.assertEqual(first_sides(with_seed(carpet(3, 1), ((0, 0, 0),))), (
            (1, 0, 0, (3,), (1,), 4), (2, 0, 0, (3,), (), 4)))

    def test_more_than_enough_at_the_ins(self):
        bed = with_seed(carpet(3, 1), ((0, 0, 0), (2, 0, 0)))
        self.assertEqual(first_sides(bed), ((1, 0, 0, (1, 3), (), 8),))
        bed = with_seed(carpet(3, 3, 3), [(x, y, 0) for x in range(3) for y in range(3) if (x, y) != (1, 1)])
        self.assertEqual(first_sides(bed), ((1, 1, 0, (0, 1, 2, 3), (), 16),))

    def test_a_tile_of_the_seed_that_holds_nothing(self):
        kinds = (("s", "", "a", "", ""), ("x", "", "", "", "a"), ("q", "", "", "", ""))
        bed = ((1, (("a", 2),), kinds), (2, 2), ((0, 0, 0), (1, 1, 2)))
        self.assertEqual(first_sides(bed), ((1, 0, 1, (0, 3), (), 2),))

    def test_less_than_enough_at_the_ins(self):
        # The middle is held by 1 from the seed and by 1 from either side; it waits for neither of these.
        kinds = (("s", "b", "", "", ""), ("u", "d", "", "", ""), ("v", "e", "", "", ""), ("m", "", "c", "b", "c"),
                 ("l", "", "c", "d", ""), ("r", "", "", "e", "c"))
        sticks = (("b", 1), ("c", 1), ("d", 2), ("e", 2))
        bed = ((2, sticks, kinds), (3, 2), ((0, 0, 1), (1, 0, 0), (2, 0, 2)))
        self.assertEqual(first_sides(bed), (
            (0, 1, 4, (2,), (), 2), (1, 1, 3, (2,), (), 1), (2, 1, 5, (2,), (), 2)))

    def test_between_two_rims(self):
        for wide, high in FLOORS + ((12, 12),):
            bed = sum_bed(wide, high)
            kinds = {tile[:2]: tile[2] for tile in first_end(bed)[1]}
            self.assertEqual(first_sides(bed), tuple(
                (x, y, kinds[(x, y)], (1, 2), ((0,) if y < high - 1 else ()) + ((3,) if x > 0 else ()), 2)
                for x in range(wide - 1) for y in range(1, high)))

    def test_seeds_of_several_tiles(self):
        bed = chains([[(0, 0), (1, 0), (1, 1)], [(2, 1), (2, 0)]], (3, 2), 2)
        # Behind a seed each; (1, 0) and (2, 0) lie beside each other, but neither waits for the other.
        self.assertEqual(first_sides(bed), (
            (1, 0, 1, (3,), (0,), 2), (1, 1, 2, (1, 2), (), 2), (2, 0, 4, (0,), (), 2)))

    def test_against_all_rows(self):
        seen = []
        for bed in sure_small_beds(400):
            told = first_sides(bed)
            self.assertEqual(told, plain_first_sides(bed, all_ends(bed)[0], dict(plain_waits(bed))))
            seen += [len(tile[3]) for tile in told]
        self.assertTrue(min(seen.count(size) for size in (0, 1, 2)) > 10)

    def test_on_larger_floors(self):
        for bed in sure_larger_beds():
            self.assertEqual(first_sides(bed), plain_first_sides(bed, first_end(bed)[1], dict(waits(bed))))


class TurnsTest(unittest.TestCase):
    def test_by_hand(self):
        self.assertEqual(turns(SQUARE), (((0, 1, 2), (1, 0, 1)), ((1, 1, 3),)))
        self.assertEqual(turns(LINE), (((1, 0, 1),), ((2, 0, 2),)))
        self.assertEqual(turns(carpet(2, 2)), (((0, 1, 0), (1, 0, 0)), ((0, 0, 0),)))

    def test_each_with_all_growings(self):
        for bed in sure_small_beds(400) + sure_larger_beds():
            standing = bed[2]
            for turn in turns(bed):
                self.assertTrue(turn)
                self.assertEqual(turn, plain_growings(bed, standing))
                standing = tuple(sorted(standing + turn))
            self.assertEqual(plain_growings(bed, standing), ())
            self.assertEqual(standing, first_end(bed)[1])

    def test_none_shorter(self):
        sizes = []
        for bed in sure_small_beds(400):
            told = turns(bed)
            self.assertEqual(len(told), fewest_turns(bed))
            sizes.append(len(told))
        self.assertTrue(min(sizes.count(size) for size in (0, 1, 2, 3)) > 10)

    def test_at_the_bounds(self):
        self.assertEqual(len(turns(snake(12, 10, (12, 12)))), 119)
        self.assertEqual([len(turn) for turn in turns(sum_bed(12, 12))], [*range(1, 12), *range(10, 0, -1)])
        self.assertEqual(len(turns(with_seed(carpet(12, 12), ((0, 0, 0),)))), 22)

    def test_put_one_behind_the_other_it_is_a_row(self):
        for bed in sure_small_beds(80) + sure_larger_beds():
            self.assertEqual(grown(bed, sum(turns(bed), ())), first_end(bed)[1])


class SameTest(unittest.TestCase):
    def test_plain_the_same_twice_and_nothing_changed(self):
        for bed in sure_small_beds(80) + sure_larger_beds()[:8]:
            before = copy.deepcopy(bed)
            told = [(waits(bed), first_sides(bed), turns(bed)) for step in range(2)]
            self.assertTrue(is_plain(told[0]))
            self.assertEqual(told[0], told[1])
            self.assertEqual(bed, before)


if __name__ == "__main__":
    unittest.main()
