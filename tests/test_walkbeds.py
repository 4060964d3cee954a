"""Points 2, 3 (e) and 22: faces, walked_bed, counted_bed."""

import copy
import random
import unittest

from stickytiles.beds import is_bed
from stickytiles.holding import growings
from stickytiles.rows import first_end, grown
from stickytiles.verdictlooks import shows_verdict
from stickytiles.verdicts import verdict
from stickytiles.walkbeds import counted_bed, faces, walked_bed
from stickytiles.walkers import copier, counter
from tests.growers import SQUARE, SQUARE_END, with_seed
from tests.reckoning import all_ends, drawn_row, places, plain_growings, plain_walked
from tests.samples import BED, LONG_BED, LONG_STANDING, is_plain, some_beds
from tests.walks import ONE, TWICE, drawn_walker, drawn_walkers, drawn_word, in_figures


def words_walked(walker, word, rows):
    found = [word]
    for step in range(rows):
        found.append(plain_walked(walker, found[-1])[0])
    return found


class FacesTest(unittest.TestCase):
    def test_by_hand(self):
        self.assertEqual(faces(SQUARE, SQUARE_END, 0), "sr")
        self.assertEqual(faces(SQUARE, SQUARE_END, 1), "uc")
        self.assertEqual(faces(SQUARE, SQUARE_END[:1], 1), "")

    def test_empty_places_and_tiles_without_a_face(self):
        # The kinds 1 and 4 have no face.
        self.assertEqual(faces(BED, ((0, 0, 0), (1, 0, 1), (2, 0, 3)), 0), "sz")
        self.assertEqual(faces(BED, ((0, 1, 1), (1, 1, 4)), 1), "")
        self.assertEqual(faces(BED, ((0, 2, 2), (2, 2, 5)), 2), "0q")
        self.assertEqual(faces(BED, ((0, 2, 5), (2, 2, 2)), 2), "q0")
        self.assertEqual(faces(LONG_BED, LONG_STANDING, 1), "0s")
        self.assertEqual(faces(LONG_BED, LONG_STANDING, 0), "")
        for y in range(3):
            self.assertEqual(faces(BED, (), y), "")

    def test_against_a_second_way(self):
        for bed, standing in some_beds(80):
            kinds = {tile[:2]: tile[2] for tile in standing}
            for y in range(bed[1][1]):
                row = [bed[0][2][kinds[(x, y)]][0] for x in range(bed[1][0]) if (x, y) in kinds]
                self.assertEqual(faces(bed, standing, y), "".join(row))


class WalkChecks(unittest.TestCase):
    def good(self, bed, walker, words):
        wide = len(words[0])
        rows = len(words) - 1
        self.assertTrue(is_bed(bed))
        self.assertEqual(bed[0][0], 2)
        self.assertEqual(bed[1], (wide + 1, rows + 1))
        self.assertEqual(len(bed[2]), 1)
        self.assertLessEqual(len(bed[0][2]), len(walker[1]) * len(walker[0]) + wide + 2)
        told = verdict(bed)
        self.assertEqual(told[0], "sure")
        self.assertIs(shows_verdict(bed, told), True)
        end = grown(bed, told[1])
        self.assertEqual([tile[:2] for tile in end], places(bed))
        self.assertEqual([faces(bed, end, y) for y in range(rows + 1)], words)

    def walks(self, walker, word, rows):
        self.good(walked_bed(walker, word, rows), walker, words_walked(walker, word, rows))

    def counts(self, base, wide, first, rows):
        numbers = [(first + y) % base ** wide for y in range(rows + 1)]
        self.good(counted_bed(base, wide, first, rows), counter(base), [in_figures(base, wide, n) for n in numbers])


class WalkedBedTest(WalkChecks):
    def test_by_hand(self):
        self.good(walked_bed(TWICE, "aab", 3), TWICE, ["aab", "aba", "aab", "aba"])
        self.good(walked_bed(ONE, "q", 0), ONE, ["q"])
        self.good(walked_bed(ONE, "qqqqqq", 8), ONE, ["qqqqqq"] * 9)
        self.good(walked_bed(counter(10), "98", 3), counter(10), ["98", "99", "00", "01"])

    def test_each_number_of_rows_and_letters(self):
        chance = random.Random(151)
        for size in range(1, 7):
            for rows in range(9):
                walker = drawn_walker(chance, chance.randint(1, 10), chance.randint(1, 4))
                self.walks(walker, drawn_word(chance, walker, size), rows)

    def test_each_size_of_walkers(self):
        chance = random.Random(152)
        for walker in drawn_walkers(153):
            self.walks(walker, drawn_word(chance, walker, chance.randint(1, 6)), chance.choice((1, 4, 8)))

    def test_the_greatest(self):
        chance = random.Random(154)
        for walker in [drawn_walker(chance, 10, 4) for step in range(4)]:
            self.walks(walker, drawn_word(chance, walker, 6), 8)
            self.walks(walker, walker[0][0] * 6, 8)

    def test_words_of_one_letter_and_of_alike_ones(self):
        chance = random.Random(155)
        for walker in [TWICE, ONE, copier("ab"), counter(3), drawn_walker(chance, 3, 4), drawn_walker(chance, 2, 3)]:
            for letter in walker[0]:
                for size in range(1, 7):
                    self.walks(walker, letter * size, 4)

    def test_copied(self):
        self.walks(copier("ab"), "abbaab", 8)
        self.walks(copier("0123456789"), "908172", 5)

    def test_walkers_that_tell_all_alike(self):
        # All steps write one letter, or lead to one state, or back to where it was.
        self.walks(("ab", (((0, 0), (0, 0)),)), "bbb", 4)
        self.walks(("ab", (((1, 1), (0, 1)), ((1, 1), (0, 1)))), "abab", 5)
        self.walks(("ab", (((1, 0), (0, 1)), ((0, 1), (1, 0)))), "abba", 8)

    def test_whatever_comes_first(self):
        chance = random.Random(156)
        for walker in drawn_walkers(157)[::3]:
            bed = walked_bed(walker, drawn_word(chance, walker, chance.randint(1, 6)), chance.randint(0, 8))
            end = first_end(bed)[1]
            for step in range(3):
                self.assertEqual(grown(bed, drawn_row(chance, bed, growings)), end)

    def test_against_all_rows(self):
        chance = random.Random(158)
        for size, rows in ((1, 0), (1, 1), (1, 2), (2, 1), (3, 1), (2, 2), (5, 0)):
            walker = drawn_walker(chance, 2, 2)
            bed = walked_bed(walker, drawn_word(chance, walker, size), rows)
            ends = all_ends(bed)
            self.assertEqual(len(ends), 1)
            self.assertEqual(plain_growings(bed, ends[0]), ())
            self.assertEqual(len(ends[0]), (size + 1) * (rows + 1))

    def test_nothing_grows_without_the_seed(self):
        bed = walked_bed(TWICE, "abc", 2)
        self.assertEqual(growings(with_seed(bed, ()), ()), ())


class CountedBedTest(WalkChecks):
    def test_by_hand(self):
        bed = counted_bed(10, 3, 997, 5)
        end = first_end(bed)[1]
        self.assertEqual([faces(bed, end, y) for y in range(6)], ["997", "998", "999", "000", "001", "002"])
        self.good(bed, counter(10), ["997", "998", "999", "000", "001", "002"])
        self.good(counted_bed(2, 1, 1, 4), counter(2), ["1", "0", "1", "0", "1"])

    def test_each_base_and_number_of_figures(self):
        for base in range(2, 11):
            for wide in range(1, 7):
                rows = (base + wide) % 9
                self.counts(base, wide, 0, rows)
                self.counts(base, wide, base ** wide - 1, rows)

    def test_each_number_of_rows(self):
        for rows in range(9):
            self.counts(2, 3, 5, rows)
            self.counts(3, 1, 2, rows)
            self.counts(10, 6, 999996, rows)

    def test_all_first_ones(self):
        for base, wide in ((2, 3), (3, 2), (4, 1), (10, 1)):
            for first in range(base ** wide):
                self.counts(base, wide, first, 4)

    def test_more_often_than_once_over(self):
        self.counts(2, 1, 0, 8)
        self.counts(2, 2, 3, 8)
        self.counts(3, 1, 1, 8)

    def test_drawn_ones(self):
        chance = random.Random(159)
        for step in range(30):
            base, wide = chance.randint(2, 10), chance.randint(1, 6)
            self.counts(base, wide, chance.randrange(base ** wide), chance.randint(0, 8))


class SameTest(unittest.TestCase):
    def test_plain_the_same_twice_and_nothing_changed(self):
        chance = random.Random(160)
        for walker in drawn_walkers(161)[::2]:
            word = drawn_word(chance, walker, 4)
            before = copy.deepcopy((walker, word))
            bed = walked_bed(walker, word, 5)
            self.assertEqual(bed, walked_bed(walker, word, 5))
            self.assertTrue(is_plain(bed))
            self.assertEqual((walker, word), before)
        self.assertEqual(counted_bed(7, 4, 99, 5), counted_bed(7, 4, 99, 5))
        self.assertTrue(is_plain(counted_bed(7, 4, 99, 5)))
        for bed, standing in some_beds(20):
            before = copy.deepcopy((bed, standing))
            self.assertEqual(faces(bed, standing, 0), faces(bed, standing, 0))
            self.assertEqual((bed, standing), before)


if __name__ == "__main__":
    unittest.main()
