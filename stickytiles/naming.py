"""Names for sides by the number, and houses made of strengths and kinds."""

from stickytiles.beds import LETTERS


def numbered(letter, number):
    # Two letters for the number, since one tells no more than 26.
    return letter + LETTERS[number // 26] + LETTERS[number % 26]


def house_of(enough, strengths, kinds):
    return (enough, tuple(sorted(strengths.items())), tuple(kinds))
