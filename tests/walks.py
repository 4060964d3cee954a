"""Walkers for the tests, always the same ones."""

import itertools
import random

FACE_SIGNS = "abcdefghijklmnopqrstuvwxyz0123456789"

# It exchanges a and b till it has seen two of them, then leaves all as it is.
TWICE = ("abc", (((1, 1), (0, 1), (2, 0)), ((1, 2), (0, 2), (2, 1)), ((0, 2), (1, 2), (2, 2))))
ONE = ("q", (((0, 0),),))


def drawn_walker(chance, letters, states):
    signs = "".join(chance.sample(FACE_SIGNS, letters))
    return (signs, tuple(
        tuple((chance.randrange(letters), chance.randrange(states)) for letter in range(letters))
        for state in range(states)))


def drawn_walkers(number):
    """One of each size."""
    chance = random.Random(number)
    return [drawn_walker(chance, letters, states) for letters in range(1, 11) for states in range(1, 5)]


def drawn_word(chance, walker, size):
    return "".join(chance.choice(walker[0]) for step in range(size))


def all_words(letters, size):
    return ["".join(word) for word in itertools.product(letters, repeat=size)]


def in_figures(base, wide, number):
    """At least so many figures, more where the number has more."""
    figures = "0123456789"
    found = ""
    while number or len(found) < wide:
        found = figures[number % base] + found
        number //= base
    return found
