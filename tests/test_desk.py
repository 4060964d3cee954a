"""Points 2, 3 (h) and 32: class Desk."""

import copy
import functools
import random
import unittest

from stickytiles.beds import is_bed
from stickytiles.desk import Desk
from stickytiles.errors import NoLine, NoText, TileError
from stickytiles.rows import first_end
from stickytiles.texts import read_bed, show_bed
from stickytiles.verdicts import verdict
from stickytiles.waiting import turns, waits
from tests.growers import (
    FORK, LARGE_FLOORS, LINE, RACE, SQUARE, SQUARE_END, carpet, chains_of, drawn_beds, drawn_mosaics, forks_of,
    large_beds, small_beds, snake, sum_bed, with_seed)
from tests.reckoning import all_ends, all_standings, fewest_turns, plain_growings, plain_held, plain_waits
from tests.samples import great_bed, junk, nested
from tests.writing import plain_picture, plain_show_bed, plain_show_row

QUESTIONS = ("may", "row", "look", "sure", "turns", "ends", "bed")


class PlainDesk:
    """A desk by another hand, of small beds; sure tells yes, or all pairs that may be told."""

    def __init__(self, bed):
        self.bed = bed
        self.laid = ()
        self.standings = all_standings(bed)
        self.all_ends = all_ends(bed)

    def standing(self):
        return tuple(sorted(self.bed[2] + self.laid))

    def is_place(self, x, y):
        return x < self.bed[1][0] and y < self.bed[1][1]

    def put(self, x, y, kind):
        if not self.is_place(x, y):
            return "no place"
        if (x, y) in [tile[:2] for tile in self.standing()]:
            return "taken"
        if kind >= len(self.bed[0][2]):
            return "no kind"
        if plain_held(self.bed, self.standing(), (x, y), kind) < self.bed[0][0]:
            return "not held"
        self.laid += ((x, y, kind),)
        return "done"

    def on(self):
        may = plain_growings(self.bed, self.standing())
        self.laid += may[:1]
        return plain_show_row(may[:1]) if may else "end"

    def back(self):
        off = self.laid[-1:]
        self.laid = self.laid[:-1]
        return plain_show_row(off) if off else "nothing"

    def held(self, x, y, kind):
        if not self.is_place(x, y):
            return "no place"
        return str(plain_held(self.bed, self.standing(), (x, y), kind)) if kind < len(self.bed[0][2]) else "no kind"

    def sure(self):
        if len(self.all_ends) == 1:
            return ["yes"]
        return [
            "no " + plain_show_row((one, other)) for may in self.standings.values() for one in may for other in may
            if one[:2] == other[:2] and one[2] < other[2]]

    def waits(self, x, y):
        if not self.is_place(x, y):
            return "no place"
        if len(self.all_ends) > 1:
            return "unsure"
        found = dict(plain_waits(self.bed)).get((x, y), ())
        return " ".join("%d,%d" % place for place in found) or "-"

    def turns(self):
        return str(fewest_turns(self.bed)) if len(self.all_ends) == 1 else "unsure"

    def say(self, line):
        """All answers that may be told."""
        word, *numbers = line.split(" ")
        numbers = [int(number) for number in numbers]
        told = {
            "put": self.put, "on": self.on, "back": self.back, "held": self.held, "sure": self.sure,
            "waits": self.waits, "turns": self.turns, "ends": lambda: str(len(self.all_ends)),
            "may": lambda: plain_show_row(plain_growings(self.bed, self.standing())),
            "row": lambda: plain_show_row(self.laid),
            "look": lambda: plain_picture(self.bed, self.standing()).replace("\n", "/"),
            "bed": lambda: plain_show_bed(self.bed).replace("\n", "/")}[word](*numbers)
        return told if isinstance(told, list) else [told]


def desk_of(bed):
    return Desk(show_bed(bed))


def what_stands(desk):
    return desk.say("row"), desk.say("look"), desk.say("may")


class DeskChecks(unittest.TestCase):
    def says(self, desk, *pairs):
        for line, answer in pairs:
            self.assertEqual(desk.say(line), answer, line)

    def refused(self, desk, *lines):
        before = what_stands(desk)
        for line in lines:
            with self.assertRaises(NoLine) as caught:
                desk.say(line)
            self.assertIs(type(caught.exception), NoLine)
            self.assertIsInstance(caught.exception, TileError)
        self.assertEqual(what_stands(desk), before)


class ByHandTest(DeskChecks):
    def test_the_square(self):
        desk = desk_of(SQUARE)
        self.says(
            desk, ("row", "-"), ("look", "../s."), ("may", "0,1,2 1,0,1"), ("back", "nothing"), ("put 1 0 1", "done"),
            ("row", "1,0,1"), ("look", "../sr"), ("may", "0,1,2"), ("on", "0,1,2"), ("may", "1,1,3"), ("on", "1,1,3"),
            ("on", "end"), ("may", "-"), ("row", "1,0,1 0,1,2 1,1,3"), ("look", "uc/sr"), ("back", "1,1,3"),
            ("back", "0,1,2"), ("look", "../sr"), ("back", "1,0,1"), ("back", "nothing"), ("row", "-"))

    def test_put_refused_by_each_of_the_four(self):
        desk = desk_of(SQUARE)
        self.says(
            desk, ("put 2 0 1", "no place"), ("put 0 2 1", "no place"), ("put 999999 0 0", "no place"),
            ("put 0 0 0", "taken"), ("put 1 1 4", "no kind"), ("put 1 1 3", "not held"), ("put 1 0 0", "not held"),
            ("row", "-"), ("look", "../s."))

    def test_put_refused_in_their_order(self):
        desk = desk_of(SQUARE)
        # No place ahead of no kind, taken ahead of no kind and of not held, no kind ahead of not held.
        self.says(
            desk, ("put 2 2 9", "no place"), ("put 0 0 9", "taken"), ("put 0 0 3", "taken"),
            ("put 1 1 999999", "no kind"))
        self.says(desk, ("put 1 0 1", "done"), ("put 1 0 1", "taken"), ("put 1 0 7", "taken"), ("row", "1,0,1"))

    def test_held_whatever_stands_at_the_place(self):
        desk = desk_of(SQUARE)
        self.says(
            desk, ("held 1 0 1", "2"), ("held 0 1 2", "2"), ("held 1 1 3", "0"), ("held 0 0 0", "0"),
            ("held 2 0 0", "no place"), ("held 0 2 9", "no place"), ("held 0 0 4", "no kind"),
            ("held 1 1 999999", "no kind"))
        self.says(
            desk, ("put 1 0 1", "done"), ("held 1 0 1", "2"), ("held 0 0 0", "2"), ("held 1 1 3", "1"),
            ("on", "0,1,2"), ("held 1 1 3", "2"), ("held 0 0 0", "4"), ("held 0 0 3", "0"))

    def test_questions_of_the_bed_from_its_seed(self):
        desk = desk_of(SQUARE)
        lines = ("sure", "waits 0 1", "waits 1 1", "waits 0 0", "turns", "ends", "bed")
        asked = [(line, desk.say(line)) for line in lines]
        self.assertEqual([answer for line, answer in asked[:6]], ["yes", "0,1 1,1", "1,1", "-", "2", "1"])
        while desk.say("on") != "end":
            self.says(desk, *asked)
        self.says(desk, *asked)

    def test_a_bed_that_parts(self):
        desk = desk_of(FORK)
        asked = (
            ("sure", "no 1,0,1 1,0,2"), ("turns", "unsure"), ("waits 1 0", "unsure"), ("waits 0 0", "unsure"),
            ("waits 3 0", "no place"), ("ends", str(len(all_ends(FORK)))), ("may", "1,0,1 1,0,2"))
        self.says(desk, *asked)
        # Behind the first tile it can't part any more, but the bed does.
        self.says(desk, ("put 1 0 1", "done"), *asked[:6], ("may", "-"))

    def test_a_race(self):
        desk = desk_of(RACE)
        self.says(desk, ("sure", "no 1,1,3 1,1,4"), ("ends", "2"), ("turns", "unsure"))

    def test_waits(self):
        self.says(
            desk_of(LINE), ("waits 0 0", "-"), ("waits 1 0", "1,0 2,0"), ("waits 2 0", "2,0"), ("waits 3 0", "-"),
            ("waits 4 0", "no place"), ("waits 0 1", "no place"), ("waits 999999 0", "no place"))

    def test_many_ends(self):
        self.says(desk_of(carpet(12, 12)), ("ends", "many"), ("sure", "yes"))
        self.says(desk_of(forks_of((2,) * 12)), ("ends", "many"), ("turns", "unsure"))
        self.says(desk_of(forks_of((2, 3, 2))), ("ends", "12"))
        # 2000 standings, and 2001.
        self.says(desk_of(chains_of((24, 79))), ("ends", "1"))
        self.says(desk_of(chains_of((2, 22, 28))), ("ends", "many"))

    def test_the_bed(self):
        text = "enough 1\nstick a 2\nkind x a - - -\nkind - - - a -\nfloor 1 3\ntile 0 0 0"
        desk = Desk(text)
        self.says(desk, ("bed", text.replace("\n", "/")), ("look", "././x"), ("on", "0,1,1"), ("look", "./#/x"),
                  ("bed", text.replace("\n", "/")))

    def test_nothing_stands(self):
        desk = desk_of(with_seed(SQUARE, ()))
        self.says(
            desk, ("may", "-"), ("on", "end"), ("back", "nothing"), ("sure", "yes"), ("turns", "0"), ("ends", "1"),
            ("waits 0 0", "-"), ("look", "../.."), ("held 0 0 0", "0"), ("put 0 0 0", "not held"))

    def test_all_is_seed(self):
        desk = desk_of(with_seed(SQUARE, SQUARE_END))
        self.says(
            desk, ("may", "-"), ("on", "end"), ("look", "uc/sr"), ("waits 1 1", "-"), ("turns", "0"), ("ends", "1"),
            ("put 1 1 3", "taken"), ("back", "nothing"), ("row", "-"))


class RefusedTextTest(unittest.TestCase):
    def test_refused_as_read_bed(self):
        text = show_bed(SQUARE)
        rows = text.split("\n")
        texts = [text + "\n", "", "\n", "x"] + ["\n".join(rows[:size]) for size in range(1, len(rows))]
        texts += ["\n".join(rows[:k] + [rows[k] + " "] + rows[k + 1:]) for k in range(len(rows))]
        seen = set()
        for other in texts + junk() + [rows, tuple(rows), (text,), text.encode()]:
            line = None
            try:
                read_bed(other)
            except NoText as error:
                line = error.line
            if line is None:
                Desk(other)
            else:
                with self.assertRaises(NoText) as caught:
                    Desk(other)
                self.assertIs(type(caught.exception), NoText)
                self.assertEqual(caught.exception.line, line)
                seen.add(line)
        self.assertGreater(len(seen), 8)

    def test_nested_sixty_deep(self):
        for wrap in (lambda thing: (thing,), lambda thing: [thing]):
            with self.assertRaises(NoText) as caught:
                Desk(nested(60, wrap, "a"))
            self.assertEqual(caught.exception.line, 0)


class NoLineTest(DeskChecks):
    def desk(self):
        desk = desk_of(SQUARE)
        desk.say("put 1 0 1")
        return desk

    def test_other_words(self):
        self.refused(
            self.desk(), "", " ", "put", "held", "waits", "grow", "Put 0 1 2", "PUT 0 1 2", "ON", "On", "o", "onn",
            "back!", "rows", "looks", "beds", "end", "done", "yes", "-", "0", "0,1,2", "1 0 1", "put0 1 2", "on\n",
            "\non", "may\t", "sure?", "turn", "wait 0 1", "no", "#", "~", "on on", "row back", "/", "put/0/1/2",
            "put,0,1,2", "x" * 8000)

    def test_words_more_or_less(self):
        for word in ("on", "back", "may", "row", "look", "sure", "turns", "ends", "bed"):
            self.refused(
                self.desk(), word + " ", " " + word, word + " 0", word + " 0 0", word + " 0 0 0", word + "  ",
                word + "\n", word + " " + word, word + " -", word + " a", word.upper(), word[:-1], word + "s " + word)
        for word in ("put", "held"):
            self.refused(
                self.desk(), word, word + " 0", word + " 0 1", word + " 0 1 2 3", word + " 0 1 2 ",
                " " + word + " 0 1 2", word + "  0 1 2", word + " 0  1 2", word + " 0 1  2", word + " 0,1,2",
                word + " 0 1 2\n", "0 1 2 " + word, word + " " + word + " 0 1 2", word.title() + " 0 1 2")
        self.refused(
            self.desk(), "waits", "waits 0", "waits 0 1 2", "waits 0 1 ", "waits  0 1", "waits 0  1", " waits 0 1",
            "waits 0,1", "waits 0 1\n", "Waits 0 1", "waits 0\n1", "wait 0 1")

    def test_numbers(self):
        for word, size in (("put", 3), ("held", 3), ("waits", 2)):
            for k in range(size):
                for number in ("", "00", "01", "-1", "+1", "1.0", "a", "1000000", "0000000", "9" * 30, "1" * 7000, "-",
                               "1e0", "\u0661", "\u00b2", "1_0", "0x0", "None", "True", "1,", ",1", "1\n", "\t1"):
                    words = ["0"] * size
                    words[k] = number
                    self.refused(self.desk(), " ".join([word] + words))

    def test_numbers_of_six_figures(self):
        self.says(
            self.desk(), ("put 999999 999999 999999", "no place"), ("put 0 1 100000", "no kind"),
            ("held 0 999999 0", "no place"), ("held 0 0 999999", "no kind"), ("waits 100000 0", "no place"))

    def test_things_that_are_no_text(self):
        things = [thing for thing in junk() if not isinstance(thing, str)]
        self.refused(self.desk(), *things)
        self.refused(
            self.desk(), ("on",), ["on"], b"on", ("put", 0, 1, 2), ["put", "0", "1", "2"], {"on": 1}, 0, (0, 1, 2))
        for wrap in (lambda thing: (thing,), lambda thing: [thing], lambda thing: (thing, thing)):
            self.refused(self.desk(), nested(60, wrap, "on"))

    def test_texts_of_the_junk(self):
        self.refused(self.desk(), *[thing for thing in junk() if isinstance(thing, str)])

    def test_each_sign_of_a_line_another_one(self):
        chance = random.Random(321)
        lines = ("put 0 1 2", "held 1 1 3", "waits 0 1", "on", "back") + QUESTIONS
        for line in lines:
            for k in range(len(line)):
                for sign in chance.sample("abdehkmnoprstuwy -,/.#\n", 8):
                    for other in (line[:k] + sign + line[k + 1:], line[:k] + sign + line[k:]):
                        if other not in lines:
                            self.refused(self.desk(), other)


@functools.lru_cache(None)
def sessions():
    """Beds, each with a desk by another hand."""
    found = [bed for bed in small_beds(120) if len(all_standings(bed)) <= 200]
    return found + [with_seed(bed, ()) for bed in found[:4]]


def drawn_line(chance, bed, standing):
    wide, high = bed[1]
    kinds = len(bed[0][2])
    may = plain_growings(bed, standing)
    if may and chance.randrange(3) == 0:
        return "put %d %d %d" % chance.choice(may)
    spot = (chance.randrange(wide + 1), chance.randrange(high + 1))
    return chance.choice((
        "put %d %d %d" % (*spot, chance.randrange(kinds + 1)), "held %d %d %d" % (*spot, chance.randrange(kinds + 1)),
        "waits %d %d" % spot, "on", "back", "on", "back", *QUESTIONS))


class SessionTest(DeskChecks):
    def test_against_a_desk_by_another_hand(self):
        chance = random.Random(322)
        seen = {}
        for bed in sessions():
            desk, plain = desk_of(bed), PlainDesk(bed)
            for step in range(30):
                line = drawn_line(chance, bed, plain.standing())
                answer = desk.say(line)
                self.assertIs(type(answer), str)
                self.assertIn(answer, plain.say(line), line)
                word = answer.split(" ")[0] if line == "sure" else answer
                seen[(line.split(" ")[0], word)] = seen.get((line.split(" ")[0], word), 0) + 1
        for pair in (
                ("put", "done"), ("put", "no place"), ("put", "taken"), ("put", "no kind"), ("put", "not held"),
                ("on", "end"), ("back", "nothing"), ("held", "no place"), ("held", "no kind"), ("held", "0"),
                ("waits", "no place"), ("waits", "unsure"), ("waits", "-"), ("turns", "unsure"), ("sure", "yes"),
                ("sure", "no"), ("may", "-"), ("row", "-")):
            self.assertGreater(seen.get(pair, 0), 5, pair)

    def test_on_to_the_end_and_back_to_nothing(self):
        for bed in sessions()[:60] + [sum_bed(5, 5), snake(4, 4, (5, 5))]:
            desk = desk_of(bed)
            row = first_end(bed)[0]
            for tile in row:
                self.says(desk, ("on", "%d,%d,%d" % tile))
            self.says(desk, ("on", "end"), ("on", "end"), ("row", plain_show_row(row)), ("may", "-"))
            for tile in row[::-1]:
                self.says(desk, ("back", "%d,%d,%d" % tile))
            self.says(desk, ("back", "nothing"), ("back", "nothing"), ("row", "-"))
            self.says(desk, ("look", plain_picture(bed, bed[2]).replace("\n", "/")))

    def test_several_desks_by_turns(self):
        chance = random.Random(323)
        pairs = [(desk_of(bed), PlainDesk(bed)) for bed in (SQUARE, SQUARE, LINE, FORK, RACE, SQUARE)]
        for step in range(400):
            desk, plain = chance.choice(pairs)
            line = drawn_line(chance, plain.bed, plain.standing())
            self.assertIn(desk.say(line), plain.say(line))

    def test_a_desk_of_what_bed_tells(self):
        for bed in sessions()[:40] + [great_bed(), sum_bed(12, 12), carpet(12, 12, 1, 120)]:
            desk = desk_of(bed)
            desk.say("on")
            other = Desk(desk.say("bed").replace("/", "\n"))
            self.assertEqual(other.say("bed"), desk.say("bed"))
            self.assertEqual(read_bed(desk.say("bed").replace("/", "\n")), bed)
            # It begins with the seed again.
            self.says(other, ("row", "-"), ("look", plain_picture(bed, bed[2]).replace("\n", "/")))


class LargeTest(DeskChecks):
    def test_on_large_floors(self):
        for bed, sure in large_beds()[::3]:
            desk = desk_of(bed)
            self.assertEqual(desk.say("sure") == "yes", sure)
            if sure:
                self.says(desk, ("turns", str(len(turns(bed)))))
                for place, some in waits(bed)[:3]:
                    self.says(desk, ("waits %d %d" % place, " ".join("%d,%d" % other for other in some)))
            else:
                told = verdict(bed)
                self.says(desk, ("turns", "unsure"), ("waits 0 0", "unsure"))
                self.assertEqual(len(desk.say("sure").split(" ")), 3)
                self.assertEqual(told[0], "parts")

    def test_drawn_ones(self):
        for bed in drawn_mosaics(10, LARGE_FLOORS, 324) + drawn_beds(6, LARGE_FLOORS, 325):
            desk = desk_of(bed)
            row, end = first_end(bed)
            for tile in row:
                self.says(desk, ("put %d %d %d" % tile, "done"))
            self.says(desk, ("on", "end"), ("look", plain_picture(bed, end).replace("\n", "/")))
            self.assertTrue(is_bed(read_bed(desk.say("bed").replace("/", "\n"))))


class SameTest(DeskChecks):
    def test_asked_twice_the_same(self):
        for bed in sessions()[:50]:
            desk = desk_of(bed)
            desk.say("on")
            for line in QUESTIONS + ("held 0 0 0", "waits 0 0"):
                self.assertEqual(desk.say(line), desk.say(line))

    def test_nothing_handed_in_is_changed(self):
        desk = desk_of(SQUARE)
        for thing in (["on"], [["put", 0, 1, 2]], {"on": ["on"]}):
            before = copy.deepcopy(thing)
            self.refused(desk, thing)
            self.assertEqual(thing, before)


if __name__ == "__main__":
    unittest.main()
