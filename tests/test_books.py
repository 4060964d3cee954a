"""Points 2, 3 (c) and 17: book, ends, always, ever."""

import copy
import functools
import itertools
import random
import unittest

from stickytiles.beds import is_standing
from stickytiles.books import always, book, ends, ever
from stickytiles.errors import TooMany
from stickytiles.holding import growings
from stickytiles.rows import first_end
from stickytiles.verdicts import verdict
from tests.growers import (
    FORK, LINE, LINE_END, MIDDLE_FLOORS, RACE, SMALL_FLOORS, SQUARE, SQUARE_END, carpet, chains_of, drawn_beds,
    drawn_mosaics, forks_of, small_beds, snake, sum_bed, with_seed)
from tests.reckoning import all_ends, all_standings, drawn_row, places, plain_book
from tests.samples import great_bed, is_plain, some_beds

ALL = (book, ends, always, ever)

# 5 * 5 * 5 * 2 * 2 * 2 * 2, 25 * 80 and 3 * 23 * 29 standings, of chains with one end each.
CHAINS_2000 = ((4, 4, 4, 1, 1, 1, 1), (24, 79))
CHAINS_2001 = ((2, 22, 28), (28, 22, 2))


@functools.lru_cache(None)
def beds_with_few():
    """Beds of which all can be gone through, most of them small."""
    found = small_beds(300) + drawn_mosaics(80, SMALL_FLOORS, 91)
    found += [bed for bed, standing in some_beds(120) if bed[1][0] * bed[1][1] <= 6]
    return found + [sum_bed(3, 4), carpet(3, 2), chains_of((2, 3, 1), (4, 4)), forks_of((2, 3, 1)), snake(5, 4, (6, 6))]


def tiles_but_seed(bed, standing):
    return set(standing) - set(bed[2])


class BookTest(unittest.TestCase):
    def test_by_hand(self):
        self.assertEqual(book(SQUARE), (
            ((0, 0, 0),), ((0, 0, 0), (0, 1, 2)), ((0, 0, 0), (1, 0, 1)), ((0, 0, 0), (0, 1, 2), (1, 0, 1)),
            SQUARE_END))
        self.assertEqual(book(LINE), (LINE_END[:1], LINE_END[:2], LINE_END))
        self.assertEqual(book(FORK), (
            ((0, 0, 0),), ((0, 0, 0), (1, 0, 1)), ((0, 0, 0), (1, 0, 2)),
            ((0, 0, 0), (1, 0, 2), (2, 0, 1)), ((0, 0, 0), (1, 0, 2), (2, 0, 2))))

    def test_where_nothing_grows(self):
        full = carpet(3, 2)
        full = with_seed(full, [place + (0,) for place in places(full)])
        for bed in (with_seed(SQUARE, ()), with_seed(SQUARE, SQUARE_END), full, great_bed()):
            self.assertEqual([ask(bed) for ask in ALL], [(bed[2],), (bed[2],), (), ()])

    def test_against_all_standings(self):
        sizes = []
        for bed in beds_with_few():
            told = book(bed)
            self.assertEqual(told, plain_book(bed))
            sizes.append(len(told))
        self.assertTrue(max(sizes) > 100 and len(set(sizes)) > 15)

    def test_order(self):
        for bed in beds_with_few():
            told = book(bed)
            self.assertEqual(told[0], bed[2])
            self.assertEqual([len(standing) for standing in told], sorted(len(standing) for standing in told))
            for size, some in itertools.groupby(told, len):
                some = list(some)
                self.assertEqual(some, sorted(set(some)))
            self.assertTrue(all(is_standing(bed, standing) for standing in told))

    def test_fewer_tiles_ahead_of_lesser_ones(self):
        # As tuples rise the standing of two tiles would come behind that of three.
        told = book(SQUARE)
        self.assertLess(told[3], told[2])

    def test_all_standings_on_the_way(self):
        chance = random.Random(92)
        for bed in beds_with_few()[:120] + [chains_of((4, 5, 6)), sum_bed(6, 5)]:
            told = set(book(bed))
            row = drawn_row(chance, bed, growings)
            for size in range(len(row) + 1):
                self.assertIn(tuple(sorted(bed[2] + row[:size])), told)

    def test_chains(self):
        for sizes in ((3,), (1, 1), (2, 3, 4), (9, 8, 7), (1, 1, 1, 1, 1, 1)):
            count = 1
            for size in sizes:
                count *= size + 1
            self.assertEqual(len(book(chains_of(sizes))), count)


class EndsTest(unittest.TestCase):
    def test_by_hand(self):
        self.assertEqual(ends(SQUARE), (SQUARE_END,))
        self.assertEqual(ends(LINE), (LINE_END,))
        self.assertEqual(ends(FORK), (
            ((0, 0, 0), (1, 0, 1)), ((0, 0, 0), (1, 0, 2), (2, 0, 1)), ((0, 0, 0), (1, 0, 2), (2, 0, 2))))
        self.assertEqual(len(ends(RACE)), 2)

    def test_by_tuples_alone(self):
        # Of unlike sizes the longer one may be the lesser.
        kinds = (("s", "a", "", "", ""), ("x", "", "", "b", ""), ("l", "c", "", "a", ""), ("m", "", "", "a", ""),
                 ("n", "", "", "c", ""))
        bed = ((1, (("a", 1), ("b", 1), ("c", 1)), kinds), (1, 3), ((0, 0, 0),))
        self.assertEqual(ends(bed), (((0, 0, 0), (0, 1, 2), (0, 2, 4)), ((0, 0, 0), (0, 1, 3))))
        self.assertEqual(list(ends(bed)), sorted(ends(bed)))

    def test_against_all_standings(self):
        counts = []
        for bed in beds_with_few():
            told = ends(bed)
            self.assertEqual(told, tuple(all_ends(bed)))
            self.assertEqual(len(told) == 1, verdict(bed)[0] == "sure")
            counts.append(min(4, len(told)))
        self.assertTrue(min(counts.count(count) for count in (1, 2, 3, 4)) > 5)

    def test_drawn_rows_end_in_one_of_them(self):
        chance = random.Random(93)
        for bed in beds_with_few()[:120] + [forks_of((3, 4, 5, 2))]:
            told = ends(bed)
            for step in range(3):
                self.assertIn(tuple(sorted(bed[2] + drawn_row(chance, bed, growings))), told)

    def test_forks(self):
        bed = forks_of((3, 4, 5, 2))
        self.assertEqual(len(ends(bed)), 3 * 4 * 5 * 2)
        self.assertEqual(len(book(bed)), 4 * 5 * 6 * 3)


class AlwaysAndEverTest(unittest.TestCase):
    def test_by_hand(self):
        self.assertEqual((always(SQUARE), ever(SQUARE)), (SQUARE_END[1:], SQUARE_END[1:]))
        self.assertEqual((always(FORK), ever(FORK)), ((), ((1, 0, 1), (1, 0, 2), (2, 0, 1), (2, 0, 2))))
        self.assertEqual(always(RACE), ((0, 1, 1), (1, 0, 2)))
        self.assertEqual(ever(RACE), ((0, 1, 1), (1, 0, 2), (1, 1, 3), (1, 1, 4)))

    def test_none_of_the_seed(self):
        bed = forks_of((1, 2))
        self.assertEqual(always(bed), ((1, 0, 2),))
        self.assertEqual(ever(bed), ((1, 0, 2), (3, 0, 3), (3, 0, 4)))

    def test_against_all_standings(self):
        unlike = 0
        for bed in beds_with_few():
            some = [tiles_but_seed(bed, end) for end in all_ends(bed)]
            self.assertEqual(always(bed), tuple(sorted(set.intersection(*some))))
            self.assertEqual(ever(bed), tuple(sorted(set.union(*some))))
            unlike += () != always(bed) != ever(bed)
        self.assertTrue(unlike > 20, unlike)

    def test_of_sure_beds_all_that_grows(self):
        for bed in [SQUARE, LINE, sum_bed(5, 5), chains_of((5, 6, 7)), snake(12, 10, (12, 12))]:
            grows = tuple(sorted(first_end(bed)[0]))
            self.assertEqual((always(bed), ever(bed)), (grows, grows))


class TooManyTest(unittest.TestCase):
    def refused(self, bed):
        for ask in ALL:
            with self.assertRaises(TooMany) as taken:
                ask(bed)
            self.assertIs(type(taken.exception), TooMany)

    def test_just_2000(self):
        for sizes in CHAINS_2000:
            bed = chains_of(sizes)
            end = first_end(bed)[1]
            told = book(bed)
            self.assertEqual((len(told), len(set(told)), told[-1]), (2000, 2000, end))
            self.assertEqual(ends(bed), (end,))
            self.assertEqual(always(bed), tuple(sorted(tiles_but_seed(bed, end))))
            self.assertEqual(ever(bed), tuple(sorted(tiles_but_seed(bed, end))))

    def test_just_2001(self):
        for sizes in CHAINS_2001:
            self.assertEqual(verdict(chains_of(sizes))[0], "sure")
            self.refused(chains_of(sizes))

    def test_forks_of_2000_and_2001(self):
        bed = forks_of((4, 4, 4, 1, 1, 1, 1))
        self.assertEqual((len(book(bed)), len(ends(bed))), (2000, 64))
        self.assertEqual(len(always(bed)), 4)
        self.assertEqual(len(ever(bed)), 16)
        self.refused(forks_of((2, 22, 28)))

    def test_far_too_many(self):
        for bed in (carpet(12, 12), carpet(12, 12, 1, 120), carpet(7, 7, 4), sum_bed(12, 12), forks_of((9,) * 10)):
            self.refused(bed)

    def test_a_second_bed_asked_between(self):
        full, over = chains_of(CHAINS_2000[0]), chains_of(CHAINS_2001[0])
        self.refused(over)
        self.assertEqual(len(book(full)), 2000)
        self.refused(over)
        self.assertEqual(book(SQUARE), plain_book(SQUARE))
        self.assertEqual(len(book(full)), 2000)


class SameTest(unittest.TestCase):
    def test_plain_the_same_twice_and_nothing_changed(self):
        for bed in beds_with_few()[:80]:
            before = copy.deepcopy(bed)
            told = [[ask(bed) for ask in ALL] for step in range(2)]
            self.assertTrue(all(is_plain(each) for each in told[0]))
            self.assertEqual(told[0], told[1])
            self.assertEqual(bed, before)

    def test_middle_floors(self):
        for bed in drawn_beds(30, MIDDLE_FLOORS, 94) + [sum_bed(12, 3), snake(12, 10, (12, 12)), carpet(7, 7)]:
            try:
                told = book(bed)
            except TooMany:
                for ask in ALL[1:]:
                    with self.assertRaises(TooMany):
                        ask(bed)
            else:
                if len(told) < 200 and bed[1][0] * bed[1][1] < 20:
                    self.assertEqual(set(told), set(all_standings(bed)))
                self.assertEqual(set(ends(bed)), {standing for standing in told if not growings(bed, standing)})


if __name__ == "__main__":
    unittest.main()
