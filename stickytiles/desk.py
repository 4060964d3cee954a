"""The desk: a bed asked and grown by lines of words (point 32)."""

from stickytiles.beds import is_place
from stickytiles.books import ends
from stickytiles.errors import NoKind, NoLine, NoPlace, NotHeld, NothingBack, NotSure, Taken, TooMany
from stickytiles.holding import held
from stickytiles.keeper import Grow
from stickytiles.texts import picture, read_bed, read_number, show_bed, show_row
from stickytiles.verdicts import verdict
from stickytiles.waiting import turns, waits


def in_one_line(text):
    return text.replace("\n", "/")


def answer_put(keeper, numbers):
    try:
        keeper.put(numbers[0], numbers[1], numbers[2])
    except NoPlace:
        return "no place"
    except Taken:
        return "taken"
    except NoKind:
        return "no kind"
    except NotHeld:
        return "not held"
    return "done"


def answer_on(keeper, numbers):
    tile = keeper.on()
    return "end" if tile is None else show_row((tile,))


def answer_back(keeper, numbers):
    try:
        tile = keeper.back()
    except NothingBack:
        return "nothing"
    return show_row((tile,))


def answer_may(keeper, numbers):
    return show_row(keeper.growings())


def answer_row(keeper, numbers):
    return show_row(keeper.row())


def answer_held(keeper, numbers):
    place = (numbers[0], numbers[1])
    if not is_place(keeper.bed, place):
        return "no place"
    if numbers[2] >= len(keeper.bed[0][2]):
        return "no kind"
    return str(held(keeper.bed, keeper.standing(), place, numbers[2]))


def answer_look(keeper, numbers):
    return in_one_line(picture(keeper.bed, keeper.standing()))


def answer_sure(keeper, numbers):
    told = verdict(keeper.bed)
    return "yes" if told[0] == "sure" else "no " + show_row(told[2:])


def answer_waits(keeper, numbers):
    place = (numbers[0], numbers[1])
    if not is_place(keeper.bed, place):
        return "no place"
    try:
        waiting = dict(waits(keeper.bed))
    except NotSure:
        return "unsure"
    if place not in waiting:
        return "-"
    return " ".join([f"{x},{y}" for x, y in waiting[place]])


def answer_turns(keeper, numbers):
    try:
        told = turns(keeper.bed)
    except NotSure:
        return "unsure"
    return str(len(told))


def answer_ends(keeper, numbers):
    try:
        told = ends(keeper.bed)
    except TooMany:
        return "many"
    return str(len(told))


def answer_bed(keeper, numbers):
    return in_one_line(show_bed(keeper.bed))


ANSWERS = {
    "put": answer_put, "on": answer_on, "back": answer_back, "may": answer_may, "row": answer_row, "held": answer_held,
    "look": answer_look, "sure": answer_sure, "waits": answer_waits, "turns": answer_turns, "ends": answer_ends,
    "bed": answer_bed,
}
# How many numbers stand behind a word; none behind the others.
COUNTS = {"put": 3, "held": 3, "waits": 2}


class Desk:
    def __init__(self, text):
        self.keeper = Grow(read_bed(text))

    def say(self, line):
        if not isinstance(line, str):
            raise NoLine()
        words = line.split(" ")
        if words[0] not in ANSWERS:
            raise NoLine()
        numbers = [read_number(word) for word in words[1:]]
        if len(numbers) != COUNTS.get(words[0], 0) or None in numbers:
            raise NoLine()
        return ANSWERS[words[0]](self.keeper, numbers)
