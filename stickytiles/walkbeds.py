"""Beds whose rows read as a walker goes, or count (point 22).

The seed stands in the south-east corner. From it the word grows to the west, and a column without faces to the north,
each tile by one side of 2. All else is held by 1 from the south, where a letter lies, and by 1 from the east, where the
state comes from: the column tells state 0.
"""

from stickytiles.naming import house_of, numbered
from stickytiles.walkers import FIGURES, counter


def letter_name(number):
    return numbered("l", number)


def state_name(number):
    return numbered("s", number)


def word_name(number):
    return numbered("w", number)


def column_name():
    return numbered("c", 0)


def faces(bed, standing, y):
    kinds = bed[0][2]
    return "".join([kinds[kind][0] for x, row, kind in standing if row == y])


def word_kinds(walker, word):
    found = []
    for number, letter in enumerate(word):
        north = letter_name(walker[0].find(letter))
        found.append((letter, north, word_name(number + 1), "", word_name(number)))
    return found


def column_kinds(word):
    seed = ("", column_name(), "", "", word_name(len(word)))
    other = ("", column_name(), "", column_name(), state_name(0))
    return [seed, other]


def table_kinds(walker):
    letters = walker[0]
    found = []
    for state, steps in enumerate(walker[1]):
        for letter, step in enumerate(steps):
            new = step[0]
            sides = (letter_name(new), state_name(state), letter_name(letter), state_name(step[1]))
            found.append((letters[new],) + sides)
    return found


def walk_strengths(walker, word):
    strengths = {column_name(): 2}
    for number in range(len(word) + 1):
        strengths[word_name(number)] = 2
    for number in range(len(walker[0])):
        strengths[letter_name(number)] = 1
    for number in range(len(walker[1])):
        strengths[state_name(number)] = 1
    return strengths


def walked_bed(walker, word, rows):
    wide = len(word)
    kinds = word_kinds(walker, word) + column_kinds(word) + table_kinds(walker)
    # The kinds of the word are numbered by its letters; the seed's comes next.
    return (house_of(2, walk_strengths(walker, word), kinds), (wide + 1, rows + 1), ((wide, 0, wide),))


def in_figures(base, wide, number):
    written = ""
    for place in range(wide):
        written = FIGURES[number % base] + written
        number = number // base
    return written


def counted_bed(base, wide, first, rows):
    return walked_bed(counter(base), in_figures(base, wide, first), rows)
