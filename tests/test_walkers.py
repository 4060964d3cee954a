"""Points 2 and 21: is_walker, walked, counter, copier."""

import copy
import random
import unittest

from stickytiles.walkers import copier, counter, is_walker, walked
from tests.reckoning import plain_walked
from tests.samples import is_plain, junk, nested, part_at, paths, replaced
from tests.walks import FACE_SIGNS, ONE, TWICE, all_words, drawn_walkers, drawn_word, in_figures

GREAT = 10 ** 30


def with_letters(letters):
    """A walker of these letters, if they may be such."""
    return (letters, (tuple((number, 0) for number in range(len(letters))),))


def with_states(count):
    return ("ab", (((0, 0), (1, count - 1)),) * count)


class IsWalkerTest(unittest.TestCase):
    def yes(self, *things):
        for thing in things:
            self.assertIs(is_walker(thing), True, thing)

    def no(self, *things):
        for thing in things:
            self.assertIs(is_walker(thing), False)

    def test_walkers(self):
        self.yes(TWICE, ONE, *drawn_walkers(141))
        self.yes(*[counter(base) for base in range(2, 11)], copier("a"), copier("09az"))

    def test_letters(self):
        self.yes(*[with_letters(FACE_SIGNS[size:size + 10]) for size in range(27)])
        self.yes(*[with_letters(sign) for sign in FACE_SIGNS])
        self.yes(with_letters("a0"), with_letters("zyx"), with_letters("abcdefghij"), with_letters("9876543210"))
        self.no(with_letters(""), with_letters("abcdefghijk"), with_letters(FACE_SIGNS), with_letters("0123456789a"))
        self.no(with_letters("aa"), with_letters("abca"), with_letters("00"), with_letters("abcdefghia"))

    def test_letters_of_other_signs(self):
        for sign in ("A", "Z", " ", "-", "\n", "_", "\u00e4", "\u0663", "\u00b2", "\u0430", "/", ":", "`", "{"):
            self.no(with_letters("a" + sign + "c"), with_letters(sign))

    def test_letters_that_are_no_text(self):
        for letters in (("a", "b"), ["a", "b"], {"a": 1, "b": 2}, b"ab", 12, None, True, (97, 98)):
            self.no((letters, TWICE[1]), (letters, with_letters("ab")[1]))

    def test_states(self):
        self.yes(*[with_states(count) for count in (1, 2, 3, 4)])
        self.no(with_states(0), with_states(5), with_states(6), ("ab", ()), ("a", ()))

    def test_rows_too_short_or_too_long(self):
        letters, table = TWICE
        for state in range(3):
            for row in (table[state][:2], table[state] + table[state][:1], (), table[state][:1], table[state] * 2):
                self.no((letters, replaced(table, (state,), row)))
        self.no(("ab", table), ("abcd", table))

    def test_numbers_of_no_letter_or_state(self):
        letters, table = TWICE
        for state in range(3):
            for letter in range(3):
                for number in (-1, 3, 4, 10, GREAT, -GREAT, -3):
                    self.no((letters, replaced(table, (state, letter, 0), number)))
                    self.no((letters, replaced(table, (state, letter, 1), number)))
        # As many letters as there are, but fewer states; and the other way round.
        self.no(("abc", (((2, 2),) * 3,) * 2), ("ab", (((2, 2),) * 2,) * 3))
        self.yes(("abc", (((2, 1),) * 3,) * 2), ("ab", (((1, 2),) * 2,) * 3))

    def test_truths_and_lists(self):
        for walker in (TWICE, ONE, counter(2)):
            for path in paths(walker):
                part = part_at(walker, path)
                if isinstance(part, tuple):
                    self.no(replaced(walker, path, list(part)), replaced(walker, path, (part,)))
                elif isinstance(part, int):
                    self.no(*[replaced(walker, path, other) for other in (str(part), (part,), None)])
                if part in (0, 1):
                    self.no(replaced(walker, path, bool(part)))

    def test_steps_of_fewer_and_more_parts(self):
        for step in ((), (0,), (0, 0, 0), ((0, 0),), 0, "00", "aa"):
            for letter in range(3):
                self.no((TWICE[0], replaced(TWICE[1], (1, letter), step)))

    def test_fewer_and_more_parts(self):
        self.no((), TWICE[:1], TWICE + ((),), TWICE[::-1], TWICE[1], TWICE[0], (TWICE,), TWICE * 2)

    def test_anything(self):
        self.no(*junk())

    def test_anything_anywhere_within(self):
        for path in paths(TWICE):
            # Three letters that may be are among the texts.
            things = [thing for thing in junk() if type(thing) is not str or thing != "ab1"]
            self.no(*[replaced(TWICE, path, thing) for thing in things])

    def test_nested_sixty_deep(self):
        wraps = (lambda thing: (thing,), lambda thing: [thing], lambda thing: ("a", thing), lambda thing: (thing,) * 2)
        for wrap in wraps:
            for core in ((), 0, "a", TWICE):
                deep = nested(56, wrap, core)
                self.no(wrap(wrap(wrap(wrap(deep)))), ("a", deep), ("a", (deep,)), ("a", ((deep,),)))
                self.no(("a", (((0, deep),),)), (deep, TWICE[1]))


class WalkedTest(unittest.TestCase):
    def test_by_hand(self):
        self.assertEqual(walked(TWICE, "aab"), ("aba", 2))
        self.assertEqual(walked(TWICE, "bcc"), ("acc", 1))
        self.assertEqual(walked(TWICE, "acb"), ("bca", 2))
        self.assertEqual(walked(TWICE, "ccc"), ("ccc", 0))
        self.assertEqual(walked(ONE, "q"), ("q", 0))

    def test_from_the_last_letter_to_the_first(self):
        # The first one it comes to is written b, all others a.
        walker = ("ab", (((1, 1), (1, 1)), ((0, 1), (0, 1))))
        for size in range(1, 7):
            self.assertEqual(walked(walker, "a" * size), ("a" * (size - 1) + "b", 1))

    def test_the_last_state(self):
        # How many letters it went over, from 4 at nought again.
        walker = ("ab", tuple((((0, (state + 1) % 4)), (1, (state + 1) % 4)) for state in range(4)))
        for size in range(1, 7):
            self.assertEqual(walked(walker, "ab"[:1] * size), ("a" * size, size % 4))

    def test_against_a_second_way(self):
        chance = random.Random(142)
        for walker in drawn_walkers(143) + drawn_walkers(144):
            for size in range(1, 7):
                for step in range(4):
                    word = drawn_word(chance, walker, size)
                    self.assertEqual(walked(walker, word), plain_walked(walker, word))

    def test_all_words_of_few_letters(self):
        for size in range(1, 5):
            for word in all_words("abc", size):
                self.assertEqual(walked(TWICE, word), plain_walked(TWICE, word))


class CounterTest(unittest.TestCase):
    def test_letters(self):
        for base in range(2, 11):
            self.assertIs(is_walker(counter(base)), True)
            self.assertEqual(counter(base)[0], "0123456789"[:base])

    def test_all_words_of_few_figures(self):
        for base in range(2, 11):
            for wide in range(1, 4 if base > 5 else 7):
                words = all_words("0123456789"[:base], wide)
                self.assertEqual([walked(counter(base), word)[0] for word in words], words[1:] + words[:1])

    def test_by_hand(self):
        self.assertEqual(walked(counter(10), "099")[0], "100")
        self.assertEqual(walked(counter(2), "0111")[0], "1000")
        self.assertEqual(walked(counter(3), "0120")[0], "0121")

    def test_the_greatest(self):
        for base in range(2, 11):
            for wide in range(1, 7):
                greatest = in_figures(base, wide, base ** wide - 1)
                self.assertEqual(walked(counter(base), greatest)[0], "0" * wide)
                self.assertEqual(walked(counter(base), "0" * wide)[0], "0" * (wide - 1) + "1")

    def test_many_times(self):
        word = "000000"
        for number in range(1, 800):
            word = walked(counter(7), word)[0]
            self.assertEqual(word, in_figures(7, 6, number))


class CopierTest(unittest.TestCase):
    def test_each_word_as_it_is(self):
        chance = random.Random(145)
        for letters in ("a", "0", "ab", "10", "q7z", "zyxwvutsrq", "0123456789"):
            self.assertIs(is_walker(copier(letters)), True)
            self.assertEqual(copier(letters)[0], letters)
            words = all_words(letters, 1) + all_words(letters, 2)
            words += [drawn_word(chance, (letters,), size) for size in range(3, 7) for step in range(10)]
            for word in words:
                self.assertEqual(walked(copier(letters), word)[0], word)


class SameTest(unittest.TestCase):
    def test_plain_the_same_twice_and_nothing_changed(self):
        chance = random.Random(146)
        for walker in drawn_walkers(147):
            word = drawn_word(chance, walker, 5)
            before = copy.deepcopy((walker, word))
            self.assertEqual(walked(walker, word), walked(walker, word))
            self.assertTrue(is_plain(walked(walker, word)))
            self.assertEqual((walker, word), before)
        for base in range(2, 11):
            self.assertEqual(counter(base), counter(base))
            self.assertTrue(is_plain(counter(base)) and is_plain(copier("0123456789"[:base])))

    def test_things_asked_are_not_changed(self):
        for thing in (["ab", [[[0, 0]]]], {"ab": [1]}, ("ab", [((0, 0), (1, 0))]), list(TWICE)):
            before = copy.deepcopy(thing)
            self.assertIs(is_walker(thing), is_walker(thing))
            self.assertEqual(thing, before)


if __name__ == "__main__":
    unittest.main()
