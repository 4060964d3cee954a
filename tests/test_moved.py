"""Point 3 (h): turned, mirrored, reordered, named otherwise, beds grow alike."""

import functools
import random
import unittest

from stickytiles.booklooks import shows_book
from stickytiles.books import always, book, ends, ever
from stickytiles.errors import NotSure, TooMany
from stickytiles.holding import growings
from stickytiles.light import is_light
from stickytiles.moves import mirrored, renamed, reordered, turned
from stickytiles.prices import least_wrong
from stickytiles.rows import grown, is_row
from stickytiles.spoilt import mended, sound, torn
from stickytiles.verdicts import verdict
from stickytiles.texts import read_bed, show_bed
from stickytiles.waiting import first_sides, turns, waits
from stickytiles.wrongs import wrong_ones
from tests.growers import (
    LARGE_FLOORS, MIDDLE_FLOORS, SMALL_FLOORS, carpet, chains_of, drawn_beds, drawn_mosaics, forks_of, small_beds,
    snake, sum_bed, with_kind_twice)
from tests.reckoning import drawn_row, places
from tests.roughs import drawn_base, drawn_goal
from tests.samples import names, some_standing


def same(thing):
    return thing


class Move:
    """A bed moved, and how its places, kinds and sides are."""

    def __init__(self, bed, place=same, kind=same, side=same):
        self.bed = bed
        self.place = place
        self.kind = kind
        self.side = side

    def tile(self, tile):
        return (*self.place(tile[:2]), self.kind(tile[2]))

    def row(self, row):
        return tuple(self.tile(tile) for tile in row)

    def tiles(self, some):
        return tuple(sorted(self.row(some)))

    def places(self, some):
        return tuple(sorted(self.place(place) for place in some))

    def sides(self, some):
        return tuple(sorted(self.side(side) for side in some))

    def waits(self, told):
        return tuple(sorted((self.place(place), self.places(some)) for place, some in told))

    def first_sides(self, told):
        return tuple(sorted(
            (*self.tile(part[:3]), self.sides(part[3]), self.sides(part[4]), part[5]) for part in told))


def moves(chance, bed):
    wide, high = bed[1]
    order = tuple(chance.sample(range(len(bed[0][2])), len(bed[0][2])))
    called = tuple(chance.sample(names(400), len(bed[0][1])))
    return (
        Move(turned(bed), place=lambda place: (high - 1 - place[1], place[0]), side=lambda side: (side + 3) % 4),
        Move(mirrored(bed), place=lambda place: (wide - 1 - place[0], place[1]), side=lambda side: (-side) % 4),
        Move(reordered(bed, order), kind=order.index),
        Move(renamed(bed, called)),
    )


@functools.lru_cache(None)
def beds():
    found = small_beds(80) + drawn_mosaics(40, SMALL_FLOORS + MIDDLE_FLOORS, 111) + drawn_beds(20, LARGE_FLOORS, 112)
    found += [sum_bed(5, 4), with_kind_twice(sum_bed(4, 5), 2), snake(5, 3, (6, 4)), carpet(4, 3), carpet(3, 2, 1, 2)]
    return found + [forks_of((2, 3, 2)), chains_of((3, 4, 5), (6, 5)), sum_bed(12, 12), snake(12, 10, (12, 12))]


class MovedTest(unittest.TestCase):
    def each(self, number, most_places=144):
        chance = random.Random(number)
        for bed in [bed for bed in beds() if bed[1][0] * bed[1][1] <= most_places]:
            for move in moves(chance, bed):
                yield chance, bed, move

    def test_what_may_be_put(self):
        for chance, bed, move in self.each(113):
            row = drawn_row(chance, bed, growings)
            for size in sorted({0, len(row) // 2, len(row)}):
                standing = grown(bed, row[:size])
                self.assertEqual(grown(move.bed, move.row(row[:size])), move.tiles(standing))
                self.assertEqual(growings(move.bed, move.tiles(standing)), move.tiles(growings(bed, standing)))

    def test_sure_or_parts(self):
        words = []
        for chance, bed, move in self.each(114):
            told = verdict(bed)
            self.assertEqual(verdict(move.bed)[0], told[0])
            self.assertTrue(is_row(move.bed, move.row(told[1])))
            words.append(told[0])
        self.assertTrue(min(words.count(word) for word in ("sure", "parts")) > 40)

    def test_waits_first_sides_and_turns(self):
        for chance, bed, move in self.each(115):
            if verdict(bed)[0] == "sure":
                self.assertEqual(waits(move.bed), move.waits(waits(bed)))
                self.assertEqual(first_sides(move.bed), move.first_sides(first_sides(bed)))
                self.assertEqual(turns(move.bed), tuple(move.tiles(turn) for turn in turns(bed)))
            else:
                for ask in (waits, first_sides, turns):
                    with self.assertRaises(NotSure):
                        ask(move.bed)

    def test_light_rows(self):
        seen = {True: 0, False: 0}
        for chance, bed, move in self.each(116):
            row = drawn_row(chance, bed, growings)
            self.assertIs(is_light(move.bed, move.row(row)), is_light(bed, row))
            seen[is_light(bed, row)] += len(row) > 0
        self.assertTrue(min(seen.values()) > 20, seen)

    def test_spoilt_and_torn(self):
        for chance, bed, move in self.each(118):
            whole = dict((tile[:2], tile[2]) for tile in grown(bed, drawn_row(chance, bed, growings)))
            whole.update((tile[:2], tile[2]) for tile in some_standing(chance, bed[0], bed[1])[::4])
            standing = tuple(sorted(place + (kind,) for place, kind in whole.items()))
            self.assertEqual(sound(move.bed, move.tiles(standing)), move.tiles(sound(bed, standing)))
            self.assertEqual(mended(move.bed, move.tiles(standing))[0], move.tiles(mended(bed, standing)[0]))
            if verdict(bed)[0] == "sure":
                spots = places(bed)
                some = tuple(sorted(chance.sample(spots, len(spots) // 2)))
                new = torn(move.bed, move.places(some))
                self.assertEqual(new, move.bed[:2] + (move.tiles(torn(bed, some)[2]),))

    def test_wrong_ones_and_prices(self):
        words = []
        for chance, bed, move in self.each(119, 30):
            base = drawn_base(chance, bed)
            goal = drawn_goal(chance, bed, base, chance.randint(0, 6))
            told = least_wrong(bed, base, goal)
            new = least_wrong(move.bed, move.tiles(base), move.tiles(goal))
            words.append(told[0])
            self.assertEqual(new[0], told[0])
            if told[0] == "never":
                self.assertEqual(new[1], move.tiles(told[1]))
            else:
                self.assertEqual(new[2][-1], told[2][-1])
                # The parts are numbered otherwise, but have the prices they had.
                self.assertEqual(sorted(new[2], key=repr), sorted(told[2], key=repr))
                if base == bed[2]:
                    self.assertEqual(wrong_ones(move.bed, move.row(told[1])), wrong_ones(bed, told[1]))
        self.assertTrue(min(words.count(word) for word in ("least", "never")) > 40)

    def test_texts(self):
        for chance, bed, move in self.each(120):
            self.assertEqual(read_bed(show_bed(move.bed)), move.bed)

    def test_books(self):
        for chance, bed, move in self.each(117, 15):
            try:
                told = book(bed)
            except TooMany:
                with self.assertRaises(TooMany):
                    book(move.bed)
            else:
                new = tuple(move.tiles(standing) for standing in told)
                self.assertIs(shows_book(move.bed, new), True)
                self.assertEqual(book(move.bed), tuple(sorted(new, key=lambda standing: (len(standing), standing))))
                self.assertEqual(ends(move.bed), tuple(sorted(move.tiles(end) for end in ends(bed))))
                self.assertEqual(always(move.bed), move.tiles(always(bed)))
                self.assertEqual(ever(move.bed), move.tiles(ever(bed)))


if __name__ == "__main__":
    unittest.main()
