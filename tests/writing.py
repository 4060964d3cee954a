"""Texts of beds, written and read a second time by another hand."""

import re

NUMBER = "(0|[1-9][0-9]*)"
NAME = "([a-z]{1,8})"
SIDE = "([a-z]{1,8}|-)"
FORMS = {
    "e": re.compile(f"enough {NUMBER}"),
    "s": re.compile(f"stick {NAME} {NUMBER}"),
    "k": re.compile(f"kind ([a-z0-9]|-) {SIDE} {SIDE} {SIDE} {SIDE}"),
    "f": re.compile(f"floor {NUMBER} {NUMBER}"),
    "t": re.compile(f"tile {NUMBER} {NUMBER} {NUMBER}"),
}
ORDER = re.compile("e(s*k*|s*k+ft*)")


def plain_show_bed(bed):
    (enough, sticks, kinds), (wide, high), seed = bed
    found = "enough %d" % enough
    for stick in sticks:
        found += "\nstick %s %d" % stick
    for kind in kinds:
        found += "\nkind %s %s %s %s %s" % tuple(part or "-" for part in kind)
    found += "\nfloor %d %d" % (wide, high)
    for tile in seed:
        found += "\ntile %d %d %d" % tile
    return found


def parts_of_row(row):
    """Its letter and its words, or None."""
    for letter, form in FORMS.items():
        match = form.fullmatch(row)
        if match:
            return letter, match.groups()
    return None


def is_beginning(rows):
    """Whether a bed's text may begin with just these rows."""
    parts = [parts_of_row(row) for row in rows]
    if None in parts or not ORDER.fullmatch("".join(letter for letter, words in parts)):
        return False
    words = {letter: [some for other, some in parts if other == letter] for letter in FORMS}
    if not all(1 <= int(number) <= 4 for some in words["e"] + [some[1:] for some in words["s"]] for number in some):
        return False
    names = [some[0] for some in words["s"]]
    if names != sorted(set(names)) or any(side not in names + ["-"] for some in words["k"] for side in some[1:]):
        return False
    if not words["f"]:
        return True
    wide, high = [int(number) for number in words["f"][0]]
    tiles = [tuple(int(number) for number in some) for some in words["t"]]
    spots = [tile[:2] for tile in tiles]
    return (
        1 <= wide <= 12 and 1 <= high <= 12 and spots == sorted(set(spots))
        and all(x < wide and y < high and kind < len(words["k"]) for x, y, kind in tiles))


def plain_read_bed(text):
    """The bed, or the number of the row at fault."""
    rows = text.split("\n")
    for number in range(len(rows)):
        if not is_beginning(rows[:number + 1]):
            return number
    parts = [parts_of_row(row) for row in rows]
    found = {letter: tuple(words for other, words in parts if other == letter) for letter in FORMS}
    if not found["f"]:
        return len(rows)
    sticks = tuple((name, int(number)) for name, number in found["s"])
    kinds = tuple(tuple("" if word == "-" else word for word in words) for words in found["k"])
    numbers = [tuple(tuple(int(word) for word in words) for words in found[letter]) for letter in "eft"]
    return ((numbers[0][0][0], sticks, kinds), numbers[1][0], numbers[2])


def plain_show_row(row):
    return " ".join(",".join(map(str, tile)) for tile in row) or "-"


def plain_picture(bed, standing):
    signs = {tile[:2]: bed[0][2][tile[2]][0] or "#" for tile in standing}
    wide, high = bed[1]
    return "\n".join("".join(signs.get((x, y), ".") for x in range(wide)) for y in reversed(range(high)))
