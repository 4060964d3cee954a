"""Points 2, 3 (a) and 12: shows_verdict."""

import copy
import itertools
import random
import unittest

from stickytiles.holding import growings
from stickytiles.rows import first_end, grown, is_row
from stickytiles.verdictlooks import shows_verdict
from stickytiles.verdicts import verdict
from tests.growers import (
    FORK, HAND_MADE, LARGE_FLOORS, LINE, MIDDLE_FLOORS, RACE, SQUARE, SQUARE_END, TINY_FLOORS, carpet, drawn_beds,
    large_beds, small_beds, snake, snake_places, sum_bed, with_kind_twice, with_seed)
from tests.reckoning import (
    all_ends, all_rows, all_standings, drawn_row, plain_growings, plain_shows_verdict, waiting_places)
from tests.samples import junk, nested, part_at, paths, replaced

SQUARE_ROW = ((0, 1, 2), (1, 0, 1), (1, 1, 3))
SQUARE_WAITS = (((0, 1), (1, 1)), ((1, 0), (1, 1)), ((1, 1),))
SQUARE_PAPER = ("sure", SQUARE_ROW, SQUARE_WAITS)
LINE_ROW = ((1, 0, 1), (2, 0, 2))
LINE_PAPER = ("sure", LINE_ROW, (((1, 0), (2, 0)), ((2, 0),)))
FORK_PAPER = ("parts", (), (1, 0, 1), (1, 0, 2))
LONG_FORK_PAPER = ("parts", ((1, 0, 2),), (2, 0, 1), (2, 0, 2))
RACE_PAPER = ("parts", ((0, 1, 1), (1, 0, 2)), (1, 1, 3), (1, 1, 4))

BY_HAND = ((SQUARE, SQUARE_PAPER), (LINE, LINE_PAPER), (FORK, FORK_PAPER), (FORK, LONG_FORK_PAPER), (RACE, RACE_PAPER))


def own_waits(row):
    """Each tile's own place alone."""
    return tuple((tile[:2],) for tile in row)


def all_waits(bed, row):
    """For each tile all places that wait for it, by all standings gone through."""
    standings = all_standings(bed)
    return tuple(waiting_places(bed, tile[:2], standings) for tile in row)


def parts_of(row):
    """All rising tuples of places of the row."""
    spots = sorted(tile[:2] for tile in row)
    return [some for size in range(len(spots) + 1) for some in itertools.combinations(spots, size)]


class LookChecks(unittest.TestCase):
    def yes(self, bed, *things):
        for thing in things:
            self.assertIs(shows_verdict(bed, thing), True, thing)

    def no(self, bed, *things):
        for thing in things:
            self.assertIs(shows_verdict(bed, thing), False)


class SureByHandTest(LookChecks):
    def test_papers_by_hand(self):
        self.yes(SQUARE, SQUARE_PAPER, ("sure", SQUARE_ROW, own_waits(SQUARE_ROW)))
        self.yes(SQUARE, ("sure", ((1, 0, 1), (0, 1, 2), (1, 1, 3)), (((1, 0), (1, 1)), ((0, 1),), ((1, 1),))))
        self.yes(LINE, LINE_PAPER)

    def test_no_tile_at_all(self):
        for bed in (with_seed(SQUARE, ()), with_seed(SQUARE, SQUARE_END), with_seed(carpet(3, 3, 1, 2), ())):
            self.yes(bed, ("sure", (), ()))
            self.no(bed, ("sure", (), ((),)), ("sure", ((0, 0, 0),), (((0, 0),),)), ("parts", (), (0, 0, 0), (0, 0, 1)))
        self.no(SQUARE, ("sure", (), ()))

    def test_a_row_that_does_not_end(self):
        self.no(SQUARE, ("sure", SQUARE_ROW[:2], own_waits(SQUARE_ROW[:2])))
        self.no(SQUARE, ("sure", SQUARE_ROW[:2], SQUARE_WAITS))
        self.no(LINE, ("sure", LINE_ROW[:1], (((1, 0),),)))

    def test_a_row_that_is_none(self):
        other = SQUARE_ROW[:1] + SQUARE_ROW[2:] + SQUARE_ROW[1:2]
        self.no(SQUARE, ("sure", other, own_waits(other)))
        long = SQUARE_ROW + SQUARE_ROW[2:]
        self.no(SQUARE, ("sure", long, own_waits(long)), ("sure", long, SQUARE_WAITS))
        seeded = ((0, 0, 0),) + SQUARE_ROW
        self.no(SQUARE, ("sure", seeded, own_waits(seeded)))
        wrong = replaced(SQUARE_ROW, (1, 2), 2)
        self.no(SQUARE, ("sure", wrong, own_waits(wrong)), ("sure", SQUARE_END, own_waits(SQUARE_END)))

    def test_as_many_waits_as_tiles(self):
        self.no(SQUARE, ("sure", SQUARE_ROW, ()), ("sure", SQUARE_ROW, SQUARE_WAITS[:2]))
        self.no(SQUARE, ("sure", SQUARE_ROW, SQUARE_WAITS + (((1, 1),),)))
        self.no(SQUARE, ("sure", SQUARE_ROW, SQUARE_WAITS + ((),)))

    def waits(self, number, places):
        return ("sure", SQUARE_ROW, replaced(SQUARE_WAITS, (number,), places))

    def test_places_fall_or_come_twice(self):
        self.no(SQUARE, self.waits(0, ((1, 1), (0, 1))), self.waits(1, ((1, 1), (1, 0))))
        self.no(SQUARE, self.waits(2, ((1, 1), (1, 1))), self.waits(0, ((0, 1), (0, 1), (1, 1))))
        self.no(SQUARE, self.waits(0, ((0, 1), (1, 1), (1, 1))))

    def test_the_own_place_left_out(self):
        self.no(SQUARE, self.waits(0, ()), self.waits(0, ((1, 1),)), self.waits(2, ()))

    def test_places_of_the_seed_or_of_none(self):
        self.no(SQUARE, self.waits(0, ((0, 0), (0, 1), (1, 1))), self.waits(2, ((0, 0), (1, 1))))
        for place in ((2, 1), (1, 2), (-1, 0), (0, -1), (10 ** 30, 0), (-1, -1)):
            self.no(SQUARE, self.waits(2, tuple(sorted([place, (1, 1)]))))
        self.no(LINE, ("sure", LINE_ROW, (((1, 0), (2, 0)), ((2, 0), (3, 0)))))
        self.no(LINE, ("sure", LINE_ROW, (((1, 0), (2, 0), (3, 0)), ((2, 0),))))

    def test_a_place_more_that_does_not_wait(self):
        self.no(SQUARE, self.waits(0, ((0, 1), (1, 0), (1, 1))), self.waits(2, ((0, 1), (1, 1))))
        self.no(SQUARE, self.waits(2, ((1, 0), (1, 1))), self.waits(0, ((0, 1), (1, 0))))
        self.no(LINE, ("sure", LINE_ROW, (((1, 0), (2, 0)), ((1, 0), (2, 0)))))

    def test_a_place_fewer_by_which_another_kind_is_held(self):
        self.no(LINE, ("sure", LINE_ROW, (((1, 0),), ((2, 0),))))

    def test_one_place_waits_by_another_that_is_left_out(self):
        # On a line of four, of what stands beside a place that is named, nothing may be left out: it holds it.
        bed = snake(4, 1, (4, 1))
        row = first_end(bed)[0]
        self.yes(bed, ("sure", row, (((1, 0), (2, 0), (3, 0)), ((2, 0), (3, 0)), ((3, 0),))))
        self.yes(bed, ("sure", row, own_waits(row)))
        self.no(bed, ("sure", row, (((1, 0), (3, 0)), ((2, 0), (3, 0)), ((3, 0),))))
        self.no(bed, ("sure", row, (((1, 0), (2, 0)), ((2, 0), (3, 0)), ((3, 0),))))

    def test_another_kind_held_by_the_seed(self):
        bed = with_kind_twice(SQUARE, 1)
        self.no(bed, SQUARE_PAPER, ("sure", SQUARE_ROW, own_waits(SQUARE_ROW)))

    def test_another_kind_held_in_the_middle(self):
        bed = with_kind_twice(SQUARE, 3)
        self.no(bed, SQUARE_PAPER)
        self.yes(bed, ("parts", SQUARE_ROW[:2], (1, 1, 3), (1, 1, 4)))

    def test_another_kind_held_by_just_enough_and_by_less(self):
        for enough, right in ((1, False), (2, False), (3, True), (4, True)):
            kinds = (("s", "", "a", "", ""), ("x", "", "", "", "a"), ("y", "b", "", "", ""), ("t", "", "", "b", ""))
            bed = ((enough, (("a", 4), ("b", 2)), kinds), (2, 2), ((0, 0, 0), (1, 1, 3)))
            self.assertIs(shows_verdict(bed, ("sure", ((1, 0, 1),), (((1, 0),),))), right, enough)


class PartsByHandTest(LookChecks):
    def test_papers_by_hand(self):
        self.yes(FORK, FORK_PAPER, LONG_FORK_PAPER)
        self.yes(RACE, RACE_PAPER, ("parts", ((1, 0, 2), (0, 1, 1)), (1, 1, 3), (1, 1, 4)))

    def test_the_pair_turned_or_alike(self):
        self.no(FORK, ("parts", (), (1, 0, 2), (1, 0, 1)), ("parts", (), (1, 0, 1), (1, 0, 1)))
        self.no(FORK, ("parts", (), (1, 0, 2), (1, 0, 2)))
        self.no(SQUARE, ("parts", (), (0, 1, 2), (0, 1, 2)))

    def test_the_pair_of_two_places(self):
        self.assertEqual(growings(RACE, RACE[2]), ((0, 1, 1), (1, 0, 2)))
        self.no(RACE, ("parts", (), (0, 1, 1), (1, 0, 2)), ("parts", (), (1, 0, 2), (0, 1, 1)))
        self.no(SQUARE, ("parts", (), (0, 1, 2), (1, 0, 1)))

    def test_one_of_the_pair_is_no_growing(self):
        self.no(FORK, ("parts", (), (1, 0, 0), (1, 0, 1)), ("parts", (), (1, 0, 0), (1, 0, 2)))
        self.no(FORK, ("parts", (), (2, 0, 1), (2, 0, 2)), ("parts", ((1, 0, 1),), (2, 0, 1), (2, 0, 2)))
        self.no(FORK, ("parts", ((1, 0, 2),), (1, 0, 1), (1, 0, 2)))
        self.no(RACE, ("parts", RACE_PAPER[1][:1], (1, 1, 3), (1, 1, 4)))
        self.no(RACE, ("parts", RACE_PAPER[1][1:], (1, 1, 3), (1, 1, 4)))

    def test_one_of_the_pair_is_no_tile(self):
        for tile in ((1, 0, 3), (1, 0, 10 ** 30), (3, 0, 1), (1, 0), (1, 0, 2, 0), (1, 1, 2)):
            self.no(FORK, ("parts", (), (1, 0, 1), tile))
        for tile in ((1, 0, -1), (1, 0, -2), (-2, 0, 1), (1, -1, 1), (1, 0), ()):
            self.no(FORK, ("parts", (), tile, (1, 0, 2)))
        self.no(FORK, ("parts", (), (1, 0, -3), (1, 0, -1)), ("parts", (), (-1, 0, 1), (-1, 0, 2)))

    def test_a_row_that_is_none(self):
        self.no(FORK, ("parts", ((2, 0, 2),), (1, 0, 1), (1, 0, 2)), ("parts", FORK[2], (1, 0, 1), (1, 0, 2)))
        self.no(FORK, ("parts", ((1, 0, 2), (1, 0, 2)), (2, 0, 1), (2, 0, 2)))
        self.no(FORK, ("parts", ((1, 0, 3),), (2, 0, 1), (2, 0, 2)))

    def test_a_row_that_goes_on_elsewhere(self):
        bed = carpet(3, 1, 1, 2)
        self.yes(bed, ("parts", ((0, 0, 1),), (2, 0, 0), (2, 0, 1)))
        self.no(bed, ("parts", ((0, 0, 1),), (0, 0, 0), (0, 0, 1)))


class AnythingTest(LookChecks):
    def test_anything(self):
        for bed in HAND_MADE:
            self.no(bed, *junk())

    def test_anything_anywhere_within(self):
        for bed, paper in BY_HAND:
            for path in paths(paper):
                self.no(bed, *[replaced(paper, path, thing) for thing in junk()])

    def test_lists_truths_and_texts_within(self):
        for bed, paper in BY_HAND:
            for path in paths(paper):
                part = part_at(paper, path)
                if isinstance(part, tuple):
                    self.no(bed, replaced(paper, path, list(part)), replaced(paper, path, dict.fromkeys(part)))
                if isinstance(part, int):
                    self.no(bed, *[replaced(paper, path, other) for other in (str(part), None, (part,), part + 99)])
                if part in (0, 1):
                    self.no(bed, replaced(paper, path, bool(part)))

    def test_tuples_of_more_and_fewer_parts(self):
        for bed, paper in BY_HAND:
            self.no(bed, paper[:-1], paper[1:], paper + (paper[-1],), paper + ((),), paper[:1], ())
            for path in paths(paper):
                part = part_at(paper, path)
                if isinstance(part, tuple) and part and isinstance(part[0], int):
                    self.no(bed, *[replaced(paper, path, other) for other in (part[:-1], part + part[:1], (part,), ())])

    def test_words(self):
        for bed, paper in BY_HAND:
            for word in ("Sure", "sure ", " sure", "SURE", "", "s", "part", "Parts", "yes", b"sure", b"parts", ("sure",),
                         ["parts"], 0, True, None, "sureparts", "sure\n"):
                self.no(bed, (word,) + paper[1:])
            self.no(bed, ({"sure": "parts", "parts": "sure"}[paper[0]],) + paper[1:])

    def test_the_one_word_with_the_other_form(self):
        self.no(FORK, ("sure", (), (1, 0, 1), (1, 0, 2)), ("parts", (), ((1, 0, 1), (1, 0, 2))))
        self.no(SQUARE, ("parts", SQUARE_ROW, SQUARE_WAITS), ("sure", SQUARE_ROW, *SQUARE_WAITS))
        self.no(SQUARE, ("sure", (SQUARE_ROW, SQUARE_WAITS)), (SQUARE_PAPER,), ("sure", SQUARE_WAITS, SQUARE_ROW))

    def test_nested_sixty_deep(self):
        for wrap in (lambda thing: (thing,), lambda thing: [thing], lambda thing: ("sure", thing, thing)):
            deep = nested(58, wrap, ())
            for bed, paper in BY_HAND:
                self.no(bed, wrap(wrap(deep)), paper[:-1] + (deep,), paper[:1] + (deep,) + paper[2:], (deep,) + paper[1:])
            self.no(SQUARE, ("sure", SQUARE_ROW, (deep,) * 3))


class OtherHandsTest(LookChecks):
    def papers(self, chance, bed):
        """Papers of a sure bed that keep to point 12, by another hand."""
        row = drawn_row(chance, bed)
        waits = all_waits(bed, row)
        return [("sure", row, waits), ("sure", *self.shuffled(chance, bed, row, waits))]

    def shuffled(self, chance, bed, row, waits):
        by_tile = dict(zip(row, waits))
        other = drawn_row(chance, bed)
        return other, tuple(by_tile[tile] for tile in other)

    def test_other_rows_and_all_that_waits(self):
        chance = random.Random(30)
        unlike = 0
        for bed in small_beds(300):
            if len(all_ends(bed)) == 1:
                for paper in self.papers(chance, bed):
                    self.yes(bed, paper)
                    unlike += paper != verdict(bed)
        self.assertTrue(unlike > 20, unlike)

    def test_other_rows_that_part(self):
        unlike = 0
        for bed in small_beds(120):
            for standing, may in list(all_standings(bed).items())[:20]:
                pairs = [(one, other) for one in may for other in may if one[:2] == other[:2] and one < other]
                row = self.row_to(bed, standing)
                for one, other in pairs:
                    self.yes(bed, ("parts", row, one, other))
                    unlike += ("parts", row, one, other) != verdict(bed)
        self.assertTrue(unlike > 50, unlike)

    def row_to(self, bed, standing):
        row = ()
        while len(bed[2]) + len(row) < len(standing):
            row += (min(set(plain_growings(bed, bed[2] + row)) & set(standing)),)
        return row

    def test_large_ones_by_another_hand(self):
        for wide, high, floor in ((12, 10, (12, 12)), (7, 7, (7, 7)), (12, 3, (12, 3))):
            bed = snake(wide, high, floor)
            way = snake_places(wide, high)
            row = tuple(place + (k,) for k, place in enumerate(way))[1:]
            waits = tuple(tuple(sorted(way[k:])) for k in range(1, len(way)))
            self.yes(bed, ("sure", row, waits), ("sure", row, own_waits(row)))
            self.no(bed, ("sure", row, waits[1:] + waits[:1]), ("sure", row[:-1], waits[:-1]), ("sure", row[::-1], waits))
            self.no(bed, ("sure", row, waits[:5] + (waits[5][:-1],) + waits[6:]))

    def test_rims_of_sums(self):
        for wide, high in ((7, 7), (12, 12), (12, 3)):
            bed = sum_bed(wide, high)
            row = ()
            for y in range(1, high):
                for x in range(wide - 2, -1, -1):
                    row += tuple(tile for tile in growings(bed, bed[2] + row) if tile[:2] == (x, y))
            waits = tuple(
                tuple((u, v) for u in range(x + 1) for v in range(y, high)) for x, y, kind in row)
            self.yes(bed, ("sure", row, waits))
            self.no(bed, ("sure", row, waits[::-1]))
            self.no(with_kind_twice(bed, row[-1][2]), ("sure", row, waits))

    def test_the_ones_that_verdict_tells_on_large_floors(self):
        for bed in [bed for bed, sure in large_beds()] + drawn_beds(20, LARGE_FLOORS, 31):
            self.yes(bed, verdict(bed))


def spoilt_part(chance, part, spots):
    """A tuple of a paper with one thing done to it."""
    k = chance.randrange(len(part) + 1)
    return chance.choice((
        part[:k] + part[k + 1:],
        part[:k] + part[k - 1:k] + part[k:],
        tuple(chance.sample(part, len(part))),
        part[:k] + (chance.choice(spots),) + part[k:],
        part + (chance.choice(spots) + (0,),),
        tuple(sorted(spot for spot in spots if chance.randrange(3) == 0)),
    ))


def spoilt_paper(chance, bed, paper):
    """The paper with one thing done to it; it may be a good one all the same."""
    path = chance.choice(paths(paper)[1:])
    part = part_at(paper, path)
    if isinstance(part, int):
        return replaced(paper, path, part + chance.choice((-1, 1, 2)))
    if isinstance(part, str):
        return replaced(paper, path, chance.choice(("sure", "parts")))
    wide, high = bed[1]
    spots = [(x, y) for x in range(wide) for y in range(high)] + [(-1, 0), (wide, 0), (0, high)]
    # Of the places of the row more are drawn, since others are never right.
    spots += [tile[:2] for tile in verdict(bed)[1]] * 3
    return replaced(paper, path, spoilt_part(chance, part, spots))


class DrawnPapersTest(LookChecks):
    def test_against_a_second_way(self):
        chance = random.Random(40)
        seen = {True: 0, False: 0}
        changed = 0
        beds = small_beds(160) + drawn_beds(20, MIDDLE_FLOORS, 41) + [sum_bed(3, 4), snake(3, 3, (4, 4)), carpet(3, 3)]
        for bed in beds:
            told = verdict(bed)
            for step in range(40):
                paper = told
                for turn in range(chance.choice((1, 1, 2))):
                    paper = spoilt_paper(chance, bed, paper)
                right = plain_shows_verdict(bed, paper)
                self.assertIs(shows_verdict(bed, paper), right, paper)
                seen[right] += 1
                changed += right and paper != told
        self.assertTrue(changed > 40 and seen[False] > 1000, (changed, seen))

    def test_papers_with_other_places(self):
        chance = random.Random(42)
        seen = {True: 0, False: 0}
        for bed in small_beds(200) + drawn_beds(40, MIDDLE_FLOORS, 43):
            row, end = first_end(bed)
            for tile in row[:4]:
                others = [other[:2] for other in row if chance.randrange(3) == 0]
                number = row.index(tile)
                waits = replaced(own_waits(row), (number,), tuple(sorted(set(others) | {tile[:2]})))
                right = plain_shows_verdict(bed, ("sure", row, waits))
                self.assertIs(shows_verdict(bed, ("sure", row, waits)), right)
                seen[right] += 1
        self.assertTrue(min(seen.values()) > 20, seen)


class TrueTest(LookChecks):
    """On small floors no paper that is taken is untrue of all rows gone through."""

    def beds(self):
        found = [bed for bed in HAND_MADE + tuple(drawn_beds(160, TINY_FLOORS, 50))]
        return found + [carpet(2, 2), carpet(3, 1, 1, 2), with_kind_twice(LINE, 2)]

    def test_all_papers_that_say_sure(self):
        taken = 0
        for bed in self.beds():
            sure = len(all_ends(bed)) == 1
            rows = [row for row in all_rows(bed) if len(row) <= 3 and not plain_growings(bed, bed[2] + row)]
            for row in rows[:6]:
                for waits in itertools.product(parts_of(row), repeat=len(row)):
                    if shows_verdict(bed, ("sure", row, waits)):
                        taken += 1
                        self.assertTrue(sure)
                        self.places_wait(bed, row, waits)
        self.assertTrue(taken > 150, taken)

    def places_wait(self, bed, row, waits):
        standings = all_standings(bed)
        for tile, some in zip(row, waits):
            self.assertLessEqual(set(some), set(waiting_places(bed, tile[:2], standings)))

    def test_all_papers_that_say_parts(self):
        taken = 0
        for bed in self.beds():
            parts = len(all_ends(bed)) > 1
            wide, high = bed[1]
            tiles = [(x, y, kind) for x in range(wide) for y in range(high) for kind in range(len(bed[0][2]))]
            for row in all_rows(bed)[:8]:
                may = plain_growings(bed, bed[2] + row)
                for one, other in itertools.product(tiles, repeat=2):
                    said = shows_verdict(bed, ("parts", row, one, other))
                    self.assertIs(said, one in may and other in may and one[:2] == other[:2] and one < other)
                    self.assertTrue(parts or not said)
                    taken += said
        self.assertTrue(taken > 100, taken)

    def test_one_or_the_other_is_taken_of_each_bed(self):
        for bed in self.beds():
            row, end = first_end(bed)
            sure = len(all_ends(bed)) == 1
            self.assertIs(shows_verdict(bed, ("sure", row, all_waits(bed, row))), sure)


class SameTest(LookChecks):
    def test_the_same_twice_and_nothing_changed(self):
        for bed, paper in BY_HAND:
            for thing in (paper, list(paper), [paper], {"sure": [paper]}, ("sure", [[0, 1, 2]], []), paper[:2]):
                before = copy.deepcopy((bed, thing))
                self.assertIs(shows_verdict(bed, thing), shows_verdict(bed, thing))
                self.assertEqual((bed, thing), before)

    def test_only_this_bed_counts(self):
        for bed, paper in BY_HAND:
            for other in HAND_MADE:
                self.assertIs(shows_verdict(other, paper), other == bed)

    def test_rows_taken_are_rows(self):
        for bed, paper in BY_HAND:
            self.assertTrue(is_row(bed, paper[1]))
            self.assertEqual(grown(bed, paper[1]), tuple(sorted(bed[2] + paper[1])))


if __name__ == "__main__":
    unittest.main()
