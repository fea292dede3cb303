"""Promises 3.1, 3.2 and 0.2 (c): fronts, and what is left behind a beginning."""

import unittest

from heapwords.errors import HeapError, NoLetter
from heapwords.fronts import begins, front, left, taken
from heapwords.layers import alike, plain
from samples import FEW_GROUNDS, GROUNDS, all_ties, grounds_of
from searching import Steps, beginnings, heap_of, is_least, least, left_of_each, words, words_to

PATH = ("abcd", ("ab", "bc", "cd"))
UP_TO_THREE = [ground for ground in FEW_GROUNDS if len(ground[0]) <= 3]


def first_letters(ground, word):
    return "".join(sorted({other[0] for other in heap_of(ground, word)})) if word else ""


def lefts(ground, word):
    """By search: of each beginning the least word, and the least word that is left behind it."""
    found = {}
    for other in heap_of(ground, word):
        for k in range(len(other) + 1):
            found[least(ground, other[:k])] = least(ground, other[k:])
    return found


class Front(unittest.TestCase):
    def test_the_empty_word(self):
        for ground in GROUNDS:
            self.assertEqual(front(ground, ""), "")

    def test_some_words(self):
        self.assertEqual(front(PATH, "dcba"), "d")
        self.assertEqual(front(PATH, "dbca"), "bd")
        self.assertEqual(front(PATH, "cacbd"), "ac")
        self.assertEqual(front(("abc", ("ac",)), "cab"), "bc")

    def test_a_letter_that_stands_twice_is_told_once(self):
        self.assertEqual(front(("ab", ()), "bbaab"), "ab")
        self.assertEqual(front(("ab", ("ab",)), "bbaab"), "b")

    def test_held_back_by_a_letter_that_is_held_back_itself(self):
        self.assertEqual(front(("abc", ("ab", "bc")), "abc"), "a")
        self.assertEqual(front(("abc", ("ab", "bc")), "cba"), "c")

    def test_against_a_search(self):
        for ground in FEW_GROUNDS:
            for word in words_to(ground[0], {1: 7, 2: 7, 3: 5, 4: 4, 5: 4}[len(ground[0])]):
                self.assertEqual(front(ground, word), first_letters(ground, word), (ground, word))

    def test_every_ground_of_four_letters_against_a_search(self):
        steps = Steps(11)
        for ground in grounds_of("abcd"):
            for length in (5, 6, 7):
                word = steps.word("abcd", length)
                self.assertEqual(front(ground, word), first_letters(ground, word), (ground, word))

    def test_twelve_letters(self):
        steps = Steps(12)
        for ground in FEW_GROUNDS:
            word = steps.word(ground[0], 12)
            expected = sorted(one for one in beginnings(ground, word).values() if len(one) == 1)
            self.assertEqual(front(ground, word), "".join(expected), (ground, word))
            self.assertEqual(front(ground, steps.mixed(ground, word)), front(ground, word))

    def test_no_ties_and_all_ties(self):
        for letters in ("a", "ab", "abc", "abcd", "abcde"):
            word = (letters[::-1] * 12)[:12]
            self.assertEqual(front((letters, ()), word), letters)
            self.assertEqual(front((letters, all_ties(letters)), word), letters[-1])


class Taken(unittest.TestCase):
    def test_some_words(self):
        self.assertEqual(taken(PATH, "dbca", "d"), "bac")
        self.assertEqual(taken(PATH, "dbca", "b"), "adc")
        self.assertEqual(taken(("ab", ()), "babab", "b"), "aabb")
        self.assertEqual(taken(("a", ()), "a", "a"), "")

    def test_only_one_is_taken_off(self):
        self.assertEqual(taken(("ab", ("ab",)), "aabaa", "a"), "abaa")

    def test_against_a_search(self):
        for ground in FEW_GROUNDS:
            for word in words_to(ground[0], 4):
                heap = heap_of(ground, word)
                for letter in ground[0]:
                    rests = [other[1:] for other in heap if other[:1] == letter]
                    if rests:
                        self.assertEqual(taken(ground, word, letter), min(rests), (ground, word, letter))
                        self.assertEqual(min(rests), least(ground, rests[-1]))
                    else:
                        self.assertRaises(NoLetter, taken, ground, word, letter)

    def test_twelve_letters(self):
        steps = Steps(13)
        for ground in FEW_GROUNDS:
            word = steps.word(ground[0], 12)
            for letter in ground[0]:
                if letter not in front(ground, word):
                    self.assertRaises(NoLetter, taken, ground, word, letter)
                    continue
                rest = taken(ground, word, letter)
                self.assertEqual(left_of_each(ground, letter + rest), left_of_each(ground, word), (ground, word))
                self.assertTrue(is_least(ground, rest))
                self.assertEqual(taken(ground, steps.mixed(ground, word), letter), rest)

    def test_in_the_word_but_not_in_the_front(self):
        for ground, word, letter in ((PATH, "dcba", "a"), (PATH, "dcba", "c"), (("ab", ("ab",)), "ba", "a")):
            self.assertRaises(NoLetter, taken, ground, word, letter)

    def test_not_in_the_word(self):
        for ground in FEW_GROUNDS:
            for letter in ground[0]:
                self.assertRaises(NoLetter, taken, ground, "", letter)
                self.assertRaises(NoLetter, taken, ground, ground[0].replace(letter, ""), letter)

    def test_not_in_the_ground(self):
        for letter in "ez":
            self.assertRaises(NoLetter, taken, PATH, "abcd", letter)


class Left(unittest.TestCase):
    def test_some_words(self):
        self.assertEqual(left(PATH, "b", "dbca"), "adc")
        self.assertEqual(left(PATH, "db", "dbca"), "ac")
        self.assertEqual(left(PATH, "ba", "dbca"), "dc")
        self.assertEqual(left(("ab", ()), "bb", "ababab"), "aaab")

    def test_the_empty_word(self):
        steps = Steps(14)
        for ground in FEW_GROUNDS:
            for length in range(8):
                word = steps.word(ground[0], length)
                self.assertEqual(left(ground, "", word), least(ground, word))
                self.assertIs(begins(ground, "", word), True)

    def test_the_word_itself_and_written_otherwise(self):
        steps = Steps(15)
        for ground in FEW_GROUNDS:
            for length in range(13):
                word = steps.word(ground[0], length)
                self.assertEqual(left(ground, word, word), "")
                self.assertEqual(left(ground, steps.mixed(ground, word), word), "")
                self.assertIs(begins(ground, steps.mixed(ground, word), word), True)

    def test_each_two_words_against_a_search(self):
        for ground in UP_TO_THREE:
            for word in words_to(ground[0], 4):
                found = lefts(ground, word)
                for one in words_to(ground[0], 4):
                    first = least(ground, one)
                    self.assertIs(begins(ground, one, word), first in found, (ground, one, word))
                    if first in found:
                        self.assertEqual(left(ground, one, word), found[first], (ground, one, word))
                    else:
                        self.assertRaises(NoLetter, left, ground, one, word)

    def test_five_letters_against_a_search(self):
        steps = Steps(16)
        for ground in [ground for ground in FEW_GROUNDS if len(ground[0]) >= 4]:
            for turn in range(4):
                word = steps.word(ground[0], 6)
                found = lefts(ground, word)
                for one in words_to(ground[0], 3):
                    first = least(ground, one)
                    self.assertIs(begins(ground, one, word), first in found, (ground, one, word))
                    if first in found:
                        self.assertEqual(left(ground, one, word), found[first], (ground, one, word))
                    else:
                        self.assertRaises(NoLetter, left, ground, one, word)

    def test_all_beginnings_of_twelve_letters_written_otherwise(self):
        steps = Steps(17)
        for ground in FEW_GROUNDS:
            word = steps.word(ground[0], 12)
            for one in list(beginnings(ground, word).values())[::5]:
                rest = left(ground, steps.mixed(ground, one), word)
                self.assertEqual(left_of_each(ground, one + rest), left_of_each(ground, word), (ground, one, word))
                self.assertTrue(is_least(ground, rest), (ground, one, word))
                self.assertIs(begins(ground, one, word), True)

    def test_no_beginning_of_twelve_letters(self):
        steps = Steps(18)
        for ground in FEW_GROUNDS:
            word = steps.word(ground[0], 12)
            found = beginnings(ground, word)
            for length in (1, 2, 3, 6, 12):
                for turn in range(6):
                    one = steps.word(ground[0], length)
                    expected = left_of_each(ground, one) in found
                    self.assertIs(begins(ground, one, word), expected, (ground, one, word))
                    if not expected:
                        self.assertRaises(NoLetter, left, ground, one, word)

    def test_longer_than_the_word(self):
        for ground in FEW_GROUNDS:
            for length in range(12):
                word = (ground[0] * 12)[:length]
                for one in (word + ground[0][0], ground[0][-1] + word, word + word + ground[0]):
                    self.assertRaises(NoLetter, left, ground, one, word)
                    self.assertIs(begins(ground, one, word), False)

    def test_a_piece_that_is_no_beginning(self):
        self.assertRaises(NoLetter, left, ("ab", ("ab",)), "b", "ab")
        self.assertRaises(NoLetter, left, ("ab", ("ab",)), "aa", "aba")
        self.assertRaises(NoLetter, left, PATH, "bd", "dcb")
        self.assertIs(begins(PATH, "bd", "dcb"), False)

    def test_twenty_four_letters(self):
        steps = Steps(19)
        for ground in FEW_GROUNDS:
            one = steps.word(ground[0], 12)
            rest = steps.word(ground[0], 12)
            word = steps.mixed(ground, one + rest)
            self.assertEqual(left(ground, one, word), plain(ground, rest), (ground, one, rest))
            self.assertIs(begins(ground, one, word), True)


class PutAheadOrBehind(unittest.TestCase):
    def test_the_same_heaps_only_of_the_same_ones(self):
        for ground in UP_TO_THREE:
            for length in range(4):
                for one in words(ground[0], length):
                    for other in words(ground[0], length):
                        expected = other in heap_of(ground, one)
                        for put in ("", ground[0][0], ground[0][-1] * 2, ground[0], ground[0][::-1] + ground[0][0]):
                            self.assertIs(alike(ground, put + one, put + other), expected, (ground, put, one, other))
                            self.assertIs(alike(ground, one + put, other + put), expected, (ground, one, other, put))

    def test_longer_words(self):
        steps = Steps(20)
        for ground in FEW_GROUNDS:
            for turn in range(8):
                put = steps.word(ground[0], 6)
                one = steps.word(ground[0], 6)
                other = steps.mixed(ground, one)
                if turn % 2:
                    k = steps.below(5)
                    other = other[:k] + other[k + 1] + other[k] + other[k + 2:]
                expected = other in heap_of(ground, one)
                self.assertIs(alike(ground, put + one, put + other), expected, (ground, put, one, other))
                self.assertIs(alike(ground, one + put, other + put), expected, (ground, one, other, put))

    def test_what_is_put_ahead_is_taken_off(self):
        steps = Steps(21)
        for ground in FEW_GROUNDS:
            one = steps.word(ground[0], 5)
            rest = steps.word(ground[0], 6)
            self.assertEqual(left(ground, one, one + rest), least(ground, rest))
            word = steps.mixed(ground, one + rest)
            self.assertEqual(left(ground, steps.mixed(ground, one), word), least(ground, rest))


class Refusals(unittest.TestCase):
    def test_taken_by_each_error_above(self):
        for above in (NoLetter, HeapError, ValueError):
            with self.assertRaises(above):
                taken(PATH, "ab", "b")
            with self.assertRaises(above):
                left(PATH, "b", "ab")


if __name__ == "__main__":
    unittest.main()
