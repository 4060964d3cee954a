"""Points 2, 3 (c) and 18: shows_book."""

import copy
import functools
import itertools
import random
import unittest

from stickytiles.booklooks import shows_book
from stickytiles.books import book
from stickytiles.holding import growings
from stickytiles.rows import first_end
from tests.growers import (
    FORK, GREAT, HAND_MADE, LINE, LINE_END, RACE, SMALL_FLOORS, SQUARE, SQUARE_END, carpet, chains_of, drawn_mosaics,
    forks_of, small_beds, snake, sum_bed, with_seed)
from tests.reckoning import places, plain_book
from tests.samples import great_bed, junk, nested, part_at, paths, replaced, some_standing


@functools.lru_cache(None)
def beds_and_books():
    beds = small_beds(120) + drawn_mosaics(40, SMALL_FLOORS, 101)
    beds += [sum_bed(3, 3), forks_of((2, 3)), chains_of((2, 3), (4, 3))]
    return [(bed, plain_book(bed)) for bed in beds]


def all_of_chains(bed, sizes):
    """The standings of chains, each of which has grown as far as may be, whatever the others did."""
    tiles = sorted(first_end(bed)[1], key=lambda tile: tile[2])
    ways = []
    for size in sizes:
        ways.append([tiles[:count + 1] for count in range(size + 1)])
        tiles = tiles[size + 1:]
    return tuple(tuple(sorted(sum(parts, []))) for parts in itertools.product(*ways))


class BookLooks(unittest.TestCase):
    def yes(self, bed, *things):
        for thing in things:
            self.assertIs(shows_book(bed, thing), True)

    def no(self, bed, *things):
        for thing in things:
            self.assertIs(shows_book(bed, thing), False)


class ByHandTest(BookLooks):
    def test_by_hand(self):
        self.yes(LINE, (LINE_END[:1], LINE_END[:2], LINE_END), (LINE_END, LINE_END[:1], LINE_END[:2]))
        self.no(LINE, (LINE_END[:1], LINE_END[:2]), (LINE_END[:1], LINE_END), (LINE_END[:2], LINE_END), (LINE_END,), ())

    def test_where_nothing_grows(self):
        full = carpet(2, 2)
        full = with_seed(full, [place + (0,) for place in places(full)])
        for bed in (with_seed(SQUARE, ()), with_seed(SQUARE, SQUARE_END), full, great_bed()):
            self.yes(bed, (bed[2],))
            self.no(bed, (), (bed[2], bed[2]), bed[2], [bed[2]], ((bed[2],),), ((), ()), (((0, 0, 0),), ()))

    def test_one_more_without_growings(self):
        # Nothing leads away from it; but nothing leads to it either.
        self.no(LINE, book(LINE) + (((0, 0, 1), (1, 0, 1)),), book(LINE) + ((),), book(LINE) + (((3, 0, 0),),))
        self.no(with_seed(LINE, ()), ((), LINE_END), (LINE_END, ()))

    def test_one_more_that_leads_to_one_of_it(self):
        # The tile (1, 0) is a growing on it, and behind that lies one of the book: but no row leads to it.
        bed = with_seed(SQUARE, SQUARE_END[:2])
        self.yes(bed, book(bed))
        self.no(bed, book(bed) + (SQUARE_END[:1],))

    def test_the_book_of_another_seed(self):
        self.no(SQUARE, book(with_seed(SQUARE, SQUARE_END[:2])), book(with_seed(SQUARE, ())))
        self.no(SQUARE, tuple(dict.fromkeys(book(SQUARE) + book(with_seed(SQUARE, ((1, 0, 0),))))))
        for bed in HAND_MADE:
            for other in HAND_MADE:
                self.assertIs(shows_book(other, book(bed)), other == bed)

    def test_standings_of_kinds_or_places_that_are_none(self):
        wrongs = [((0, 0, 4),), ((2, 0, 0),), ((0, 2, 0),), ((-1, 0, 0),), ((0, 0, -1),), ((0, 0, GREAT),)]
        wrongs += [((GREAT, 0, 0),), ((0, 0),)]
        wrongs += [((0, 0, 0, 0),), ((1, 0, 0), (0, 0, 0)), ((0, 0, 0), (0, 0, 0)), ((0, 0, 0), (0, 0, 1))]
        for wrong in wrongs:
            self.no(SQUARE, book(SQUARE) + (wrong,), (wrong,) + book(SQUARE), (wrong,), (wrong,) + book(SQUARE)[1:])

    def test_tiles_that_do_not_rise(self):
        for number, standing in enumerate(book(SQUARE)):
            if len(standing) > 1:
                self.no(SQUARE, replaced(book(SQUARE), (number,), standing[::-1]), book(SQUARE) + (standing[::-1],))


class DrawnTest(BookLooks):
    def test_in_any_order(self):
        chance = random.Random(102)
        for bed, told in beds_and_books():
            self.yes(bed, told, told[::-1], tuple(chance.sample(told, len(told))), book(bed))

    def test_each_one_left_out(self):
        for bed, told in beds_and_books():
            for number in range(min(len(told), 30)):
                self.no(bed, told[:number] + told[number + 1:])
            self.no(bed, told[1:], (), told[:-1])

    def test_one_twice(self):
        chance = random.Random(103)
        for bed, told in beds_and_books():
            number = chance.randrange(len(told))
            self.no(bed, told + told[number:number + 1], told[:1] + told, told + told)
            self.no(bed, told[:number] + told[number:number + 1] + told[number:])
            if len(told) > 1:
                self.no(bed, told[:number] + (told[number - 1],) + told[number + 1:])

    def test_another_one_more_or_instead(self):
        chance = random.Random(104)
        more = 0
        for bed, told in beds_and_books():
            for step in range(5):
                other = some_standing(chance, bed[0], bed[1])
                if other not in told:
                    number = chance.randrange(len(told))
                    self.no(bed, told + (other,), (other,) + told, told[:number] + (other,) + told[number + 1:])
                    more += growings(bed, other) == ()
        self.assertTrue(more > 50, more)

    def test_all_that_grows_from_another_one_more(self):
        # Closed under growing and with the seed among it, but not all of it is come to from there.
        chance = random.Random(105)
        many = 0
        for bed, told in beds_and_books():
            other = some_standing(chance, bed[0], bed[1])
            both = tuple(dict.fromkeys(told + plain_book(with_seed(bed, other))[:3000])) if len(other) > 3 else told
            self.assertIs(shows_book(bed, both), both == told)
            many += both != told
        self.assertTrue(many > 20, many)

    def test_larger_ones(self):
        for sizes in ((4, 4, 4, 1, 1, 1, 1), (2, 22, 28), (9, 9, 9, 2)):
            bed = chains_of(sizes)
            told = all_of_chains(bed, sizes)
            # Though more than 2000, they show all there are.
            self.yes(bed, told)
            less = told[:700] + told[701:]
            self.no(bed, told[:-1], told[1:], less, told + told[-1:], less + told[:1])
        self.yes(snake(12, 10, (12, 12)), book(snake(12, 10, (12, 12))))
        self.no(snake(12, 10, (12, 12)), book(snake(12, 10, (12, 12)))[:-1])
        self.no(carpet(12, 12), (carpet(12, 12)[2],))


class AnythingTest(BookLooks):
    def test_anything(self):
        for bed in HAND_MADE:
            self.no(bed, *junk())

    def test_anything_anywhere_within(self):
        for bed in HAND_MADE:
            told = book(bed)
            for path in paths(told):
                self.no(bed, *[replaced(told, path, thing) for thing in junk()])

    def test_lists_truths_and_texts_within(self):
        for bed in HAND_MADE:
            told = book(bed)
            for path in paths(told):
                part = part_at(told, path)
                if isinstance(part, tuple):
                    self.no(bed, replaced(told, path, list(part)), replaced(told, path, set(part)))
                    self.no(bed, replaced(told, path, part + part[:1]), replaced(told, path, (part,)))
                else:
                    others = (str(part), None, (part,), GREAT, -GREAT, part + 9)
                    self.no(bed, *[replaced(told, path, other) for other in others])
                if part in (0, 1):
                    self.no(bed, replaced(told, path, bool(part)))
            self.no(bed, dict.fromkeys(told), set(told), frozenset(told), list(told))

    def test_nested_sixty_deep(self):
        for wrap in (lambda thing: (thing,), lambda thing: [thing], lambda thing: (thing, thing)):
            for core in ((), 0, "a", None):
                deep = nested(56, wrap, core)
                for bed in HAND_MADE:
                    self.no(bed, wrap(wrap(wrap(wrap(deep)))), book(bed) + (deep,), (deep,) + book(bed), (deep,))
                    self.no(bed, replaced(book(bed), (0, 0, 0), deep), replaced(book(bed), (1, 0), deep))

    def test_the_seed_with_a_truth(self):
        # As Python compares, it would be the seed.
        self.no(LINE, (((False, 0, 0),),) + book(LINE)[1:], (((0, False, 0),),) + book(LINE)[1:])
        self.no(with_seed(LINE, LINE_END), (((0, 0, 0), (True, 0, 1), (2, 0, 2)),))


class SameTest(BookLooks):
    def test_the_same_twice_and_nothing_changed(self):
        for bed in HAND_MADE:
            told = book(bed)
            for thing in (told, list(told), [[list(tile) for tile in part] for part in told], {"a": [1]}):
                before = copy.deepcopy((bed, thing))
                self.assertIs(shows_book(bed, thing), shows_book(bed, thing))
                self.assertEqual((bed, thing), before)

    def test_another_bed_between(self):
        self.yes(RACE, book(RACE))
        self.no(FORK, book(RACE))
        self.yes(RACE, book(RACE))


if __name__ == "__main__":
    unittest.main()
