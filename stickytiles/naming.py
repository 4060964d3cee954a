"""Names for sides by the number, and houses made of strengths and kinds."""

from stickytiles.beds import LETTERS


def numbered(letter, number):
    # Three letters for the number, since the blocks of 120 kinds have more names than two of them tell.
    return letter + LETTERS[number // 676] + LETTERS[number // 26 % 26] + LETTERS[number % 26]


def house_of(enough, strengths, kinds):
    return (enough, tuple(sorted(strengths.items())), tuple(kinds))
