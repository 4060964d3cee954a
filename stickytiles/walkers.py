"""Walkers, that go over a word by a table and write another one (point 21)."""

from stickytiles.beds import FACE_SIGNS, is_tuple, is_whole

# More than ten, since nothing is refused for a greater base.
FIGURES = "0123456789abcdefghijklmnopqrstuvwxyz"


def are_letters(thing):
    if not isinstance(thing, str) or not 1 <= len(thing) <= 10:
        return False
    return all([sign in FACE_SIGNS for sign in thing]) and len(set(thing)) == len(thing)


def is_step(thing, letters, states):
    return is_tuple(thing, 2) and is_whole(thing[0], 0, letters - 1) and is_whole(thing[1], 0, states - 1)


def is_state(thing, letters, states):
    return is_tuple(thing, letters) and all([is_step(part, letters, states) for part in thing])


def is_walker(thing):
    if not is_tuple(thing, 2) or not are_letters(thing[0]):
        return False
    table = thing[1]
    if not isinstance(table, tuple) or not 1 <= len(table) <= 4:
        return False
    return all([is_state(part, len(thing[0]), len(table)) for part in table])


def walked(walker, word):
    letters = walker[0]
    state = 0
    written = ""
    for letter in reversed(word):
        step = walker[1][state][letters.find(letter)]
        written = letters[step[0]] + written
        state = step[1]
    return (written, state)


def counter(base):
    # In state 0 there is one to add; behind the first figure that isn't the greatest there is none.
    adding = [((figure + 1) % base, 0 if figure == base - 1 else 1) for figure in range(base)]
    keeping = [(figure, 1) for figure in range(base)]
    return (FIGURES[:base], (tuple(adding), tuple(keeping)))


def copier(letters):
    return (letters, (tuple([(number, 0) for number in range(len(letters))]),))
