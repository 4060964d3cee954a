"""Points 2, 3 (g) and 28: least_wrong."""

import copy
import random
import unittest

from stickytiles.beds import is_standing
from stickytiles.pricelooks import shows_least_wrong
from stickytiles.prices import least_wrong
from stickytiles.rows import first_end
from tests.growers import (
    FORK, LARGE_FLOORS, LINE, MIDDLE_FLOORS, SMALL_FLOORS, SQUARE, SQUARE_END, carpet, drawn_beds, small_beds, snake,
    sum_bed, with_seed)
from tests.roughs import (
    drawn_base, drawn_cases, drawn_goal, greatest_part, more_of, parts_in_order, plain_prices, plain_shows_least_wrong,
    plain_steps, price_by_all_orders)
from tests.samples import is_plain


class PriceChecks(unittest.TestCase):
    def check(self, bed, base, goal):
        told = least_wrong(bed, base, goal)
        prices = plain_prices(bed, base, goal)
        if prices[-1] is None:
            self.assertEqual(told, ("never", greatest_part(bed, base, goal)))
            self.assertTrue(is_standing(bed, told[1]))
        else:
            word, row, told_prices = told
            self.assertEqual(word, "least")
            self.assertEqual(tuple(sorted(row)), more_of(base, goal))
            steps = plain_steps(bed, base, row)
            self.assertNotIn(None, steps)
            self.assertEqual(steps.count("wrong"), prices[-1])
            self.assertEqual(told_prices, prices)
        self.assertIs(shows_least_wrong(bed, base, goal, told), True)
        return told


class ByHandTest(PriceChecks):
    def test_the_goal_that_is_the_base(self):
        for bed in (SQUARE, LINE, FORK, carpet(3, 3), sum_bed(12, 12)):
            self.assertEqual(least_wrong(bed, bed[2], bed[2]), ("least", (), (0,)))
            self.assertEqual(least_wrong(bed, (), ()), ("least", (), (0,)))
            end = first_end(bed)[1]
            self.assertEqual(least_wrong(bed, end, end), ("least", (), (0,)))

    def test_the_square(self):
        # The more tiles, rising: north (1), east (2), and the corner (4) that waits for both.
        told = self.check(SQUARE, SQUARE[2], SQUARE_END)
        self.assertEqual(told[0], "least")
        self.assertEqual(told[1][-1], (1, 1, 3))
        self.assertEqual(told[2], (0, 0, 0, 0, None, 1, 1, 0))

    def test_the_corner_with_one_neighbour(self):
        self.assertEqual(
            least_wrong(SQUARE, SQUARE[2], ((0, 0, 0), (0, 1, 2), (1, 1, 3))),
            ("least", ((0, 1, 2), (1, 1, 3)), (0, 0, None, 1)))

    def test_never(self):
        self.assertEqual(least_wrong(SQUARE, SQUARE[2], ((0, 0, 0), (1, 1, 3))), ("never", SQUARE[2]))
        self.assertEqual(
            least_wrong(SQUARE, SQUARE[2], ((0, 0, 0), (0, 1, 2), (1, 0, 0), (1, 1, 3))),
            ("never", ((0, 0, 0), (0, 1, 2), (1, 1, 3))))

    def test_from_nothing_nothing_comes(self):
        self.assertEqual(least_wrong(SQUARE, (), SQUARE_END), ("never", ()))

    def test_the_seed_counts_nothing(self):
        # From the corner the others come by wrong ones alone, whatever the seed is.
        for seed in ((), SQUARE[2], SQUARE_END, ((0, 0, 3),)):
            bed = with_seed(SQUARE, seed)
            self.assertEqual(least_wrong(bed, ((1, 1, 3),), SQUARE_END), least_wrong(SQUARE, ((1, 1, 3),), SQUARE_END))
        told = self.check(SQUARE, ((1, 1, 3),), SQUARE_END)
        self.assertEqual(told[2][-1], 1)

    def test_where_enough_is_one_it_is_nought_or_never(self):
        chance = random.Random(281)
        words = []
        for bed in (LINE, FORK, carpet(4, 3, 1, 2)):
            for step in range(20):
                told = self.check(bed, bed[2], drawn_goal(chance, bed, bed[2], step % 8))
                words.append(told[0])
                if told[0] == "least":
                    self.assertEqual(set(told[2]) - {None}, {0})
        self.assertEqual(set(words), {"least", "never"})

    def test_numbers_of_parts(self):
        # In a line each tile waits for the one ahead: of the parts just the beginnings can be.
        bed = snake(6, 1, (6, 1), 1)
        end = first_end(bed)[1]
        self.assertEqual(least_wrong(bed, bed[2], end)[2], tuple(
            0 if number in (0, 1, 3, 7, 15, 31) else None for number in range(32)))
        # From the other end the tiles come the other way about.
        told = least_wrong(bed, end[-1:], end)
        self.assertEqual(told[1], end[-2::-1])
        self.assertEqual([number for number, price in enumerate(told[2]) if price is not None], [0, 16, 24, 28, 30, 31])


class DrawnTest(PriceChecks):
    def test_against_all_orders(self):
        chance = random.Random(282)
        beds = small_beds(160) + drawn_beds(40, MIDDLE_FLOORS, 283)
        words = []
        prices = []
        for bed, base, goal in drawn_cases(chance, beds, 5):
            told = self.check(bed, base, goal)
            words.append(told[0])
            if told[0] == "least":
                for part, price in zip(parts_in_order(more_of(base, goal)), told[2]):
                    self.assertEqual(price_by_all_orders(bed, base, part), price)
                prices.append(told[2][-1])
        self.assertTrue(min(words.count(word) for word in ("least", "never")) > 25)
        self.assertTrue({0, 1, 2} <= set(prices))

    def test_up_to_nine_more(self):
        chance = random.Random(284)
        beds = [bed for bed in drawn_beds(90, SMALL_FLOORS + MIDDLE_FLOORS, 285) if bed[0][0] > 1]
        beds += [sum_bed(4, 4), carpet(4, 4, 4), carpet(5, 3, 3), sum_bed(3, 5), sum_bed(5, 3)] * 3
        sizes = []
        for number, bed in enumerate(beds):
            base = drawn_base(chance, bed)
            goal = drawn_goal(chance, bed, base, 5 + number % 5)
            told = self.check(bed, base, goal)
            sizes.append((len(goal) - len(base), told[0]))
        self.assertTrue({(9, "least"), (8, "least"), (7, "least"), (6, "least")} <= set(sizes))
        self.assertTrue("never" in [word for size, word in sizes])

    def test_never_tells_the_greatest_part(self):
        chance = random.Random(286)
        seen = []
        for bed, base, goal in drawn_cases(chance, drawn_beds(300, SMALL_FLOORS, 287), 7):
            told = least_wrong(bed, base, goal)
            if told[0] == "never":
                self.assertEqual(told[1], greatest_part(bed, base, goal))
                seen.append(len(told[1]) - len(base))
        self.assertTrue({0, 1, 2, 3} <= set(seen))

    def test_on_large_floors(self):
        chance = random.Random(288)
        for bed in [sum_bed(12, 12), carpet(12, 12, 4), snake(12, 10, (12, 12))] + drawn_beds(4, LARGE_FLOORS, 289):
            row = first_end(bed)[0]
            base = tuple(sorted(bed[2] + row[:-4]))
            for goal in (first_end(bed)[1], drawn_goal(chance, bed, base, 4)):
                told = least_wrong(bed, base, goal)
                self.assertTrue(plain_shows_least_wrong(bed, base, goal, told))
                self.assertIs(shows_least_wrong(bed, base, goal, told), True)

    def test_rows_of_growings_cost_nothing(self):
        chance = random.Random(290)
        for bed in small_beds(60) + [sum_bed(6, 5), snake(5, 4, (6, 6))]:
            row = first_end(bed)[0]
            start = chance.randint(0, len(row))
            base = tuple(sorted(bed[2] + row[:start]))
            goal = tuple(sorted(bed[2] + row[:start + 9]))
            told = least_wrong(bed, base, goal)
            self.assertEqual((told[0], told[2][-1]), ("least", 0))
            self.assertNotIn("wrong", plain_steps(bed, base, told[1]))


class SameTest(unittest.TestCase):
    def test_plain_the_same_twice_and_nothing_changed(self):
        chance = random.Random(291)
        for bed, base, goal in drawn_cases(chance, small_beds(40), 7):
            before = copy.deepcopy((bed, base, goal))
            told = least_wrong(bed, base, goal)
            self.assertTrue(is_plain(told))
            self.assertEqual(least_wrong(bed, base, goal), told)
            self.assertEqual((bed, base, goal), before)


if __name__ == "__main__":
    unittest.main()
