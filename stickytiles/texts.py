"""Beds, rows and standings as texts, and read again (points 30 and 31)."""

from stickytiles.beds import is_floor, is_kind, is_stick, is_tile, is_whole
from stickytiles.errors import NoText
from stickytiles.holding import kinds_by_place

TEN_FIGURES = "0123456789"
# No number that a bed may have is longer, either.
MOST_FIGURES = 6


def in_words(word, numbers):
    return " ".join([word] + [str(number) for number in numbers])


def kind_in_words(kind):
    return " ".join(["kind"] + ["-" if part == "" else part for part in kind])


def show_bed(bed):
    house = bed[0]
    rows = [in_words("enough", house[:1])]
    rows.extend([in_words("stick", stick) for stick in house[1]])
    rows.extend([kind_in_words(kind) for kind in house[2]])
    rows.append(in_words("floor", bed[1]))
    rows.extend([in_words("tile", tile) for tile in bed[2]])
    return "\n".join(rows)


def read_number(word):
    if not 1 <= len(word) <= MOST_FIGURES or not all([sign in TEN_FIGURES for sign in word]):
        return None
    if word[0] == "0" and word != "0":
        return None
    return int(word)


def read_numbers(words):
    return tuple([read_number(word) for word in words])


def read_enough(words, ahead, known):
    numbers = read_numbers(words[1:])
    if len(numbers) != 1 or len(ahead) > 0 or not is_whole(numbers[0], 1, 4):
        return None
    return numbers[0]


def read_stick(words, ahead, known):
    if len(words) != 3:
        return None
    stick = (words[1], read_number(words[2]))
    if not is_stick(stick) or (ahead and stick[0] <= ahead[-1][0]):
        return None
    return stick


def read_kind(words, ahead, names):
    # An empty word would be read as no side, which is written otherwise.
    if "" in words:
        return None
    kind = tuple(["" if word == "-" else word for word in words[1:]])
    return kind if is_kind(kind, names) else None


def read_floor(words, ahead, kinds):
    floor = read_numbers(words[1:])
    if len(kinds) == 0 or len(ahead) > 0 or not is_floor(floor):
        return None
    return floor


def read_seed_tile(words, ahead, bed):
    tile = read_numbers(words[1:])
    if not is_tile(bed, tile) or (ahead and tile[:2] <= ahead[-1][:2]):
        return None
    return tile


def read_run(rows, line, word, read_one, known):
    # All rows from this one on that begin with the word, each read by what was read ahead of it and what is known.
    found = []
    while line < len(rows) and rows[line][0] == word:
        part = read_one(rows[line], found, known)
        if part is None:
            raise NoText(line)
        found.append(part)
        line += 1
    return tuple(found)


def read_bed(text):
    if not isinstance(text, str):
        raise NoText(0)
    rows = [row.split(" ") for row in text.split("\n")]
    enough = read_run(rows, 0, "enough", read_enough, None)
    if len(enough) == 0:
        raise NoText(0)
    line = 1
    sticks = read_run(rows, line, "stick", read_stick, None)
    line += len(sticks)
    kinds = read_run(rows, line, "kind", read_kind, dict(sticks))
    line += len(kinds)
    floors = read_run(rows, line, "floor", read_floor, kinds)
    # Behind the last row, too: there the floor's lacks.
    if len(floors) == 0:
        raise NoText(line)
    line += 1
    house = (enough[0], sticks, kinds)
    seed = read_run(rows, line, "tile", read_seed_tile, (house, floors[0], ()))
    line += len(seed)
    if line < len(rows):
        raise NoText(line)
    return (house, floors[0], seed)


def show_row(row):
    if len(row) == 0:
        return "-"
    return " ".join([f"{x},{y},{kind}" for x, y, kind in row])


def read_row(text):
    if text == "-":
        return ()
    row = [read_numbers(word.split(",")) for word in text.split(" ")]
    if not all([len(tile) == 3 and None not in tile for tile in row]):
        return None
    return tuple(row)


def sign_at(bed, standing_kinds, place):
    if place not in standing_kinds:
        return "."
    face = bed[0][2][standing_kinds[place]][0]
    return "#" if face == "" else face


def picture(bed, standing):
    floor = bed[1]
    standing_kinds = kinds_by_place(standing)
    rows = []
    for y in range(floor[1] - 1, -1, -1):
        rows.append("".join([sign_at(bed, standing_kinds, (x, y)) for x in range(floor[0])]))
    return "\n".join(rows)
