"""Points 2, 3 (h), 30 and 31: show_bed, read_bed, show_row, read_row, picture."""

import copy
import random
import unittest

from stickytiles.beds import is_bed
from stickytiles.blocks import blocked
from stickytiles.errors import NoText, TileError
from stickytiles.rows import first_end
from stickytiles.texts import picture, read_bed, read_row, show_bed, show_row
from tests.growers import FORK, LINE, SQUARE, SQUARE_END, carpet, large_beds, small_beds, sum_bed, with_seed
from tests.samples import BED, KINDS, LONG_BED, great_bed, is_plain, junk, nested, some_beds
from tests.writing import plain_picture, plain_read_bed, plain_show_bed, plain_show_row

LEAST = ((1, (), (("", "", "", "", ""),)), (1, 1), ())
LEAST_TEXT = "enough 1\nkind - - - - -\nfloor 1 1"

TEXT = "\n".join((
    "enough 2", "stick a 1", "stick bc 2", "stick z 4", "kind s a bc - -", "kind - - z a bc", "kind 0 - - - -",
    "floor 10 3", "tile 0 0 0", "tile 0 1 2", "tile 3 0 1", "tile 9 2 2"))
TEXT_BED = (
    (2, (("a", 1), ("bc", 2), ("z", 4)),
     (("s", "a", "bc", "", ""), ("", "", "z", "a", "bc"), ("0", "", "", "", ""))),
    (10, 3), ((0, 0, 0), (0, 1, 2), (3, 0, 1), (9, 2, 2)))


def all_at_bounds():
    """240 sticks of eight letters, 120 kinds, all 144 places."""
    enough, sticks, kinds = great_bed()[0]
    longer = {name: name * 4 for name, strength in sticks}
    house = (
        enough, tuple((longer[name], strength) for name, strength in sticks),
        tuple((kind[0], *[longer[side] for side in kind[1:]]) for kind in kinds))
    return (house,) + great_bed()[1:]


def beds():
    found = [bed for bed, standing in some_beds(150)] + [standing_bed(*pair) for pair in some_beds(30)]
    found += [BED, LONG_BED, SQUARE, LINE, FORK, LEAST, TEXT_BED, carpet(12, 12, 1, 120), great_bed(), sum_bed(12, 12)]
    return found + small_beds(60)


def standing_bed(bed, standing):
    return with_seed(bed, standing)


class TextChecks(unittest.TestCase):
    def refused(self, text, line):
        with self.assertRaises(NoText) as caught:
            read_bed(text)
        self.assertIs(type(caught.exception), NoText)
        self.assertIsInstance(caught.exception, TileError)
        self.assertIs(type(caught.exception.line), int)
        self.assertEqual(caught.exception.line, line)

    def as_read(self, text):
        """As the second way reads it; told is whether it is a bed."""
        right = plain_read_bed(text)
        if isinstance(right, int):
            self.refused(text, right)
            return False
        self.assertEqual(read_bed(text), right)
        self.assertTrue(is_bed(right))
        return True

    def with_row(self, text, number, row):
        rows = text.split("\n")
        return "\n".join(rows[:number] + [row] + rows[number + 1:])


class ShowBedTest(TextChecks):
    def test_by_hand(self):
        self.assertEqual(show_bed(TEXT_BED), TEXT)
        self.assertEqual(show_bed(LEAST), LEAST_TEXT)

    def test_against_a_second_way(self):
        for bed in beds() + [all_at_bounds()]:
            self.assertEqual(show_bed(bed), plain_show_bed(bed))

    def test_read_again_as_it_was(self):
        for bed in beds() + [all_at_bounds()]:
            told = read_bed(show_bed(bed))
            self.assertEqual(told, bed)
            self.assertTrue(is_bed(told))
            self.assertTrue(is_plain(told))
            self.assertEqual(show_bed(told), show_bed(bed))

    def test_beds_of_each_number_of_sticks(self):
        for count in range(6):
            sticks = STICKS_OF_FIVE[:count]
            names = [name for name, strength in sticks] + [""]
            kinds = tuple(("", name, names[0], "", name) for name in names)
            for size in (1, len(kinds)):
                bed = ((4, sticks, kinds[:size]), (12, 1), ((11, 0, 0),))
                self.assertEqual(read_bed(show_bed(bed)), bed)

    def test_what_was_told_whatever_its_size(self):
        # More than 8000 signs, more kinds than 120.
        for many in (2, 3):
            bed = blocked(sum_bed(4, 4), many)
            self.assertEqual(read_bed(show_bed(bed)), bed)
        bed = with_seed(great_bed(), ())
        self.assertEqual(read_bed(show_bed(bed)), bed)


STICKS_OF_FIVE = (("a", 4), ("aa", 1), ("ab", 2), ("abcdefgh", 3), ("z", 1))


class ReadBedTest(TextChecks):
    def test_by_hand(self):
        self.assertEqual(read_bed(TEXT), TEXT_BED)
        self.assertEqual(read_bed(LEAST_TEXT), LEAST)

    def test_what_is_no_text(self):
        for thing in junk():
            if isinstance(thing, str):
                self.as_read(thing)
            else:
                self.refused(thing, 0)
        self.refused([TEXT], 0)
        self.refused((TEXT,), 0)
        self.refused(TEXT.split("\n"), 0)
        self.refused(TEXT.encode(), 0)
        self.refused(TEXT_BED, 0)
        for wrap in (lambda thing: (thing,), lambda thing: [thing], lambda thing: {"a": thing}):
            self.refused(nested(60, wrap, TEXT), 0)

    def test_cut_behind_each_row(self):
        rows = TEXT.split("\n")
        for size in range(1, len(rows)):
            text = "\n".join(rows[:size])
            if size < 8:
                # Without the floor's row all rows that there are stand well: so their number is told.
                self.refused(text, size)
                self.refused(text + "\n", size)
            else:
                self.assertEqual(read_bed(text), with_seed(TEXT_BED, TEXT_BED[2][:size - 8]))
                self.refused(text + "\n", size)
        self.refused("", 0)
        self.refused("\n", 0)

    def test_a_line_feed_at_the_end_and_empty_rows(self):
        rows = TEXT.split("\n")
        self.refused(TEXT + "\n", len(rows))
        self.refused(TEXT + "\n\n", len(rows))
        for number in range(len(rows)):
            self.refused("\n".join(rows[:number] + [""] + rows[number:]), number)
            self.refused(self.with_row(TEXT, number, ""), number)
            self.refused(self.with_row(TEXT, number, " "), number)

    def test_words_more_and_less(self):
        for number, row in enumerate(TEXT.split("\n")):
            words = row.split(" ")
            for k in range(len(words)):
                others = [words[:k] + words[k + 1:], words[:k + 1] + words[k:], words[:k] + ["1"] + words[k:]]
                others += [words[:k] + [""] + words[k:], words + ["a"], words + [""], [""] + words, words + ["-"]]
                for other in others:
                    self.refused(self.with_row(TEXT, number, " ".join(other)), number)

    def test_words_exchanged(self):
        for number, row in enumerate(TEXT.split("\n")):
            words = row.split(" ")
            for k in range(len(words)):
                for m in range(k):
                    exchanged = list(words)
                    exchanged[k], exchanged[m] = words[m], words[k]
                    self.as_read(self.with_row(TEXT, number, " ".join(exchanged)))
                self.refused(self.with_row(TEXT, number, " ".join(words[1:] + words[:1])), number)

    def test_blanks(self):
        for number, row in enumerate(TEXT.split("\n")):
            doubled = [row.replace(" ", "  "), row.replace(" ", "  ", 1)]
            for other in (row + " ", " " + row, *doubled, row.replace(" ", "")):
                self.refused(self.with_row(TEXT, number, other), number)
            for sign in (",", "\t", "-", "_", "\u00a0", "\r", "/"):
                self.refused(self.with_row(TEXT, number, row.replace(" ", sign, 1)), number)
                self.refused(self.with_row(TEXT, number, row + sign), number)

    def test_the_first_words(self):
        for number, row in enumerate(TEXT.split("\n")):
            word, rest = row.split(" ", 1)
            for other in (word[:-1], word + "s", word.upper(), word.title(), "", word[::-1], "row", "bed", "0", "-"):
                self.refused(self.with_row(TEXT, number, other + " " + rest), number)
            self.refused(self.with_row(TEXT, number, word), number)

    def test_noughts_ahead_and_signs(self):
        for number, row in enumerate(TEXT.split("\n")):
            words = row.split(" ")
            for k in range(1, len(words)):
                if words[k].isdigit() and words[0] != "kind":
                    for other in ("0" + words[k], "00", "+" + words[k], "-" + words[k], words[k] + ".0", "0x1", "1_0",
                                  "", "\u0661", "\u00b2", words[k] + "e0", "a", "-", "None", "True", "9" * 30, "1" * 7000,
                                  "0" * 7, "1" * 7):
                        changed = words[:k] + [other] + words[k + 1:]
                        self.refused(self.with_row(TEXT, number, " ".join(changed)), number)

    def test_numbers_that_are_not_let(self):
        lets = {"enough": ((1, 4),), "stick": (None, (1, 4)), "floor": ((1, 12), (1, 12)),
                "tile": ((0, 9), (0, 2), (0, 2))}
        for number, row in enumerate(TEXT.split("\n")):
            words = row.split(" ")
            for k, bounds in enumerate(lets.get(words[0], ())):
                if bounds is not None:
                    for other in range(0, 16):
                        text = self.with_row(TEXT, number, " ".join(words[:k + 1] + [str(other)] + words[k + 2:]))
                        if not bounds[0] <= other <= bounds[1]:
                            self.refused(text, number)
                        else:
                            # It may be that a later row can't stand any more: a tile that is off the floor now.
                            self.as_read(text)

    def test_floors(self):
        for wide in range(0, 15):
            for high in (0, 1, 12, 13):
                text = "enough 1\nkind - - - - -\nfloor %d %d" % (wide, high)
                if 1 <= wide <= 12 and 1 <= high <= 12:
                    self.assertEqual(read_bed(text)[1], (wide, high))
                else:
                    self.refused(text, 2)

    def test_tiles_off_the_floor_and_of_no_kind(self):
        for tile in ("10 2 2", "9 3 2", "9 2 3", "12 12 120"):
            self.refused("\n".join(TEXT.split("\n")[:8] + ["tile " + tile]), 8)
        for tile in ("9 2 2", "9 2 0", "0 2 1"):
            self.assertEqual(len(read_bed("\n".join(TEXT.split("\n")[:8] + ["tile " + tile]))[2]), 1)

    def test_names_that_do_not_rise(self):
        rows = TEXT.split("\n")
        for number in (1, 2, 3):
            self.refused("\n".join(rows[:number + 1] + rows[number:]), number + 1)
        self.refused("\n".join(rows[:2] + [rows[3], rows[2]] + rows[4:]), 3)
        self.refused("\n".join([rows[0], rows[2], rows[1]] + rows[3:]), 2)
        self.refused(self.with_row(TEXT, 2, "stick a 2"), 2)
        self.refused(self.with_row(TEXT, 1, "stick bc 1"), 2)
        self.refused(self.with_row(TEXT, 1, "stick bca 1"), 2)
        # A name that goes is no fault of its own row, but of the first kind that has it.
        self.refused("\n".join(rows[:1] + rows[2:]), 3)
        self.refused("\n".join(rows[:3] + rows[4:]), 4)

    def test_names(self):
        for name in ("", "A", "a1", "abcdefghi", "-", "\u00e4", "a-", "1"):
            self.refused("enough 1\nstick %s 1\nkind - - - - -\nfloor 1 1" % name, 1)
        for name in ("a", "abcdefgh", "zzzzzzzz", "stick", "kind"):
            text = "enough 1\nstick %s 1\nkind - %s - - -\nfloor 1 1" % (name, name)
            self.assertEqual(read_bed(text)[0][1], ((name, 1),))

    def test_sides_that_are_no_names(self):
        rows = TEXT.split("\n")
        for number in (4, 5, 6):
            words = rows[number].split(" ")
            for side in range(2, 6):
                for other in ("b", "y", "aa", "zz", "A", "0", "", "--", "a ", "bc,", "bcz"):
                    changed = words[:side] + [other] + words[side + 1:]
                    self.refused(self.with_row(TEXT, number, " ".join(changed)), number)
                for other in ("a", "bc", "z", "-"):
                    self.assertTrue(self.as_read(self.with_row(
                        TEXT, number, " ".join(words[:side] + [other] + words[side + 1:]))))

    def test_faces(self):
        for face in "abcdefghijklmnopqrstuvwxyz0123456789":
            self.assertEqual(read_bed(self.with_row(LEAST_TEXT, 1, f"kind {face} - - - -"))[0][2][0][0], face)
        for face in ("A", "ab", "00", "", "#", ".", "_", "\u00e4", "\u0663", "--", "a-", "/", "~", "0a"):
            self.refused(self.with_row(LEAST_TEXT, 1, f"kind {face} - - - -"), 1)

    def test_tiles_that_do_not_rise(self):
        rows = TEXT.split("\n")
        for number in range(8, 12):
            self.refused("\n".join(rows[:number + 1] + rows[number:]), number + 1)
        for number in range(8, 11):
            changed = rows[:number] + [rows[number + 1], rows[number]] + rows[number + 2:]
            self.refused("\n".join(changed), number + 1)
        # At the place of the one ahead, of a greater kind.
        self.refused("\n".join(rows[:9] + ["tile 0 0 1"] + rows[9:]), 9)
        self.refused("\n".join(rows[:9] + ["tile 0 0 2"]), 9)
        self.refused("\n".join(rows[:10] + ["tile 0 0 2"]), 10)
        # By numbers, not by signs: 10 stands behind 9.
        text = "enough 1\nkind - - - - -\nfloor 12 12\ntile 2 10 0\ntile 9 9 0\ntile 10 2 0"
        self.assertEqual(len(read_bed(text)[2]), 3)
        self.refused("enough 1\nkind - - - - -\nfloor 12 12\ntile 2 10 0\ntile 2 9 0", 4)

    def test_rows_out_of_their_turn(self):
        rows = TEXT.split("\n")
        for one in range(len(rows)):
            for other in range(len(rows)):
                moved = rows[:one] + rows[one + 1:]
                self.as_read("\n".join(moved[:other] + [rows[one]] + moved[other:]))
                self.as_read("\n".join(rows[:other] + [rows[one]] + rows[other:]))
                exchanged = list(rows)
                exchanged[one], exchanged[other] = rows[other], rows[one]
                self.as_read("\n".join(exchanged))
            self.as_read("\n".join(rows[one:]))
            self.as_read("\n".join(rows[:one] + rows[one + 1:]))
        self.refused("enough 1\nenough 1\nkind - - - - -\nfloor 1 1", 1)
        self.refused("stick a 1\nenough 1\nkind - - - - -\nfloor 1 1", 0)
        self.refused("enough 1\nkind - - - - -\nstick a 1\nfloor 1 1", 2)
        self.refused("enough 1\nkind - - - - -\nfloor 1 1\nkind - - - - -", 3)
        self.refused("enough 1\nkind - - - - -\nfloor 1 1\nfloor 1 1", 3)
        self.refused("enough 1\nkind - - - - -\ntile 0 0 0\nfloor 1 1", 2)
        self.refused("enough 1\nkind - - - - -\nfloor 1 1\ntile 0 0 0\nenough 1", 4)

    def test_the_floor_where_no_kind_stands_ahead(self):
        self.refused("enough 1\nfloor 1 1", 1)
        self.refused("enough 1\nfloor 1 1\nkind - - - - -", 1)
        self.refused("enough 1\nstick a 1\nfloor 1 1", 2)
        self.refused("enough 1\nstick a 1", 2)
        self.refused("enough 1", 1)
        self.refused("floor 1 1", 0)

    def test_the_first_of_several_faults(self):
        rows = TEXT.split("\n")
        for one in range(len(rows)):
            for other in range(one):
                changed = list(rows)
                changed[one] = changed[other] = "x"
                self.refused("\n".join(changed), other)

    def test_each_sign_another_one(self):
        chance = random.Random(301)
        seen = {True: 0, False: 0}
        for k in range(len(TEXT)):
            for sign in chance.sample("abcxyz0123456789 -\n#~A.,/", 8):
                seen[self.as_read(TEXT[:k] + sign + TEXT[k + 1:])] += 1
                seen[self.as_read(TEXT[:k] + sign + TEXT[k:])] += 1
            seen[self.as_read(TEXT[:k] + TEXT[k + 1:])] += 1
        self.assertTrue(min(seen.values()) > 40, seen)

    def test_drawn_texts_with_something_done_to_them(self):
        chance = random.Random(302)
        seen = {True: 0, False: 0}
        for bed in beds()[:240]:
            rows = show_bed(bed).split("\n")
            for step in range(12):
                seen[self.as_read("\n".join(self.changed(chance, rows)))] += 1
        self.assertTrue(min(seen.values()) > 100, seen)

    def changed(self, chance, rows):
        k = chance.randrange(len(rows))
        m = chance.randrange(len(rows))
        words = rows[k].split(" ")
        w = chance.randrange(len(words))
        word = chance.choice("0 1 2 4 5 12 13 01 a aa b - zz enough kind".split() + [""])
        return chance.choice((
            rows[:k] + [" ".join(words[:w] + [word] + words[w + 1:])] + rows[k + 1:],
            rows[:k] + [" ".join(words[:w] + words[w + 1:])] + rows[k + 1:],
            rows[:k] + [" ".join(words[:w] + [word] + words[w:])] + rows[k + 1:],
            rows[:k] + rows[k + 1:], rows[:k] + [rows[m]] + rows[k:], rows[:k] + [rows[m]] + rows[k + 1:], rows[:k]))

    def test_at_all_bounds(self):
        bed = all_at_bounds()
        text = show_bed(bed)
        rows = text.split("\n")
        for number in (0, 1, 240, 241, 360, 361, 362, 505):
            self.refused(self.with_row(text, number, rows[number] + " "), number)
        self.refused(text + "\ntile 11 11 0", len(rows))


class RowTest(unittest.TestCase):
    def test_by_hand(self):
        self.assertEqual(show_row(()), "-")
        self.assertEqual(show_row(((1, 0, 2),)), "1,0,2")
        self.assertEqual(show_row(((1, 0, 2), (10, 11, 119))), "1,0,2 10,11,119")
        self.assertEqual(read_row("-"), ())
        self.assertEqual(read_row("1,0,2"), ((1, 0, 2),))
        self.assertEqual(read_row("0,0,0 999999,10,100000"), ((0, 0, 0), (999999, 10, 100000)))

    def test_rows_of_none_to_twenty_tiles(self):
        chance = random.Random(303)
        for size in range(21):
            for step in range(10):
                row = tuple(
                    tuple(chance.randrange(10 ** chance.randint(1, 6)) for part in range(3)) for tile in range(size))
                self.assertEqual(show_row(row), plain_show_row(row))
                self.assertEqual(read_row(show_row(row)), row)
                self.assertTrue(is_plain(read_row(show_row(row))))

    def test_numbers_of_one_to_seven_figures(self):
        for size in range(1, 9):
            for figures in ("1" * size, "9" * size, "1" + "0" * (size - 1)):
                for tile in (f"{figures},0,0", f"0,{figures},0", f"0,0,{figures}"):
                    told = read_row("1,2,3 " + tile)
                    right = ((1, 2, 3), tuple(int(part) for part in tile.split(","))) if size <= 6 else None
                    self.assertEqual(told, right)

    def test_texts_of_no_row(self):
        for text in (
                "", " ", "--", "- ", " -", "- -", "-,-,-", "1", "1,2", "1,2,3,4", "1,2,", ",2,3", "1,,3", ",,", "1 2 3",
                "1, 2,3", "1,2,3 ", " 1,2,3", "1,2,3  4,5,6", "1,2,3\n4,5,6", "1,2,3\n", "\n", "1;2;3", "1,2,3;4,5,6",
                "01,2,3", "1,00,3", "1,2,03", "-1,2,3", "1,-2,3", "+1,2,3", "1.0,2,3", "a,b,c", "1,2,c", "1,2,3 -",
                "- 1,2,3", "(1,2,3)", "1,2,3,", "1,2,3 4,5", "1,2,3 4,5,6,7", "\u0661,2,3", "\u00b2,2,3", "1_0,2,3",
                "0x1,2,3", "1e1,2,3", "1234567,0,0", "0,0,0000000", "1" * 8000, "1,2," + "3" * 7000, "None",
                "1,2,3/4,5,6", "1 ,2,3", "1,2,3\t4,5,6", "~", "1,2,3 1,2,3 1,2"):
            self.assertIsNone(read_row(text), text)

    def test_not_held_to_a_bed(self):
        # No floor, no order, no unlike places: it is read as it is written.
        self.assertEqual(read_row("5,5,5 5,5,5 0,0,0"), ((5, 5, 5), (5, 5, 5), (0, 0, 0)))

    def test_each_sign_another_one(self):
        text = "1,0,2 10,11,119 3,4,0"
        for k in range(len(text)):
            for sign in "0159, -a\n.":
                for other in (text[:k] + sign + text[k + 1:], text[:k] + sign + text[k:], text[:k] + text[k + 1:]):
                    told = read_row(other)
                    if told is not None:
                        self.assertEqual(plain_show_row(told), other)
                        self.assertTrue(all(len(tile) == 3 for tile in told))
                    else:
                        words = [word.split(",") for word in other.split(" ")]
                        sound = all(len(word) == 3 and all(is_number(part) for part in word) for word in words)
                        self.assertFalse(sound, other)


def is_number(part):
    return part.isascii() and part.isdigit() and len(part) <= 6 and part == str(int(part))


class PictureTest(unittest.TestCase):
    def test_by_hand(self):
        self.assertEqual(picture(SQUARE, SQUARE_END), "uc\nsr")
        self.assertEqual(picture(SQUARE, SQUARE[2]), "..\ns.")
        self.assertEqual(picture(SQUARE, ()), "..\n..")
        # Kinds 1 and 4 have no face.
        self.assertEqual([kind[0] for kind in KINDS], ["s", "", "0", "z", "", "q"])
        self.assertEqual(picture(LONG_BED, LONG_BED[2]), "z.#.\ns..q")
        self.assertEqual(picture(LEAST, ((0, 0, 0),)), "#")
        self.assertEqual(picture(LEAST, ()), ".")

    def test_from_north_to_south_and_from_west_to_east(self):
        bed = ((1, (), tuple((face, "", "", "", "") for face in "abcdef")), (3, 2), ())
        standing = tuple((x, y, x + 3 * y) for x in range(3) for y in range(2))
        self.assertEqual(picture(bed, standing), "def\nabc")

    def test_against_a_second_way(self):
        for bed, standing in some_beds(150):
            self.assertEqual(picture(bed, standing), plain_picture(bed, standing))
            self.assertEqual(picture(bed, bed[2]), plain_picture(bed, bed[2]))

    def test_on_large_floors(self):
        for bed, sure in large_beds()[::2] + [(great_bed(), True)]:
            for standing in (bed[2], first_end(bed)[1]):
                told = picture(bed, standing)
                self.assertEqual(told, plain_picture(bed, standing))
                self.assertEqual([len(row) for row in told.split("\n")], [bed[1][0]] * bed[1][1])


class SameTest(unittest.TestCase):
    def test_plain_the_same_twice_and_nothing_changed(self):
        for bed, standing in some_beds(40):
            before = copy.deepcopy((bed, standing))
            for ask in (lambda: show_bed(bed), lambda: show_row(standing), lambda: picture(bed, standing),
                        lambda: read_bed(show_bed(bed)), lambda: read_row(show_row(standing))):
                self.assertEqual(ask(), ask())
                self.assertTrue(is_plain(ask()))
            self.assertEqual((bed, standing), before)

    def test_refused_twice_and_things_asked_are_not_changed(self):
        for thing in ([TEXT], {"a": [TEXT]}, [["enough 1"]], None):
            before = copy.deepcopy(thing)
            for step in range(2):
                with self.assertRaises(NoText):
                    read_bed(thing)
            self.assertEqual(thing, before)


if __name__ == "__main__":
    unittest.main()
