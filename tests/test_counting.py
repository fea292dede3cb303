"""Promises 5.1, 5.2 and 0.2 (e): the words of a heap and the heaps of a length, counted."""

import unittest
from itertools import combinations
from math import comb, factorial

from heapwords.counting import count_words, crowds, heaps, words_of
from heapwords.layers import plain
from samples import FEW_GROUNDS, GROUNDS, all_ties, grounds_of
from searching import Steps, heap_of, least, tied, ways_to_places, words, words_to


def ways_to_mix(word):
    number = factorial(len(word))
    for letter in set(word):
        number //= factorial(word.count(letter))
    return number


def loose_crowds(ground):
    """By search: every choice of letters, the shorter first, without those in which two are tied."""
    found = []
    for size in range(1, len(ground[0]) + 1):
        for choice in combinations(ground[0], size):
            if not any(tied(ground, one, other) for one, other in combinations(choice, 2)):
                found.append("".join(choice))
    return tuple(found)


def heaps_by_layers(ground, most):
    """How many rows of layers there are of each length: each letter of a layer is tied to one of the layer ahead."""
    rows = loose_crowds(ground)
    lies_on = {
        row: [ahead for ahead in rows if all(any(tied(ground, one, other) for other in ahead) for one in row)]
        for row in rows
    }
    ending = [{} for length in range(most + 1)]
    for length in range(1, most + 1):
        for row in rows:
            if len(row) == length:
                ending[length][row] = 1
            elif len(row) < length:
                ending[length][row] = sum(ending[length - len(row)].get(ahead, 0) for ahead in lies_on[row])
    return [1] + [sum(ending[length].values()) for length in range(1, most + 1)]


class WordsOf(unittest.TestCase):
    def test_some_words(self):
        self.assertEqual(words_of(("abc", ("ab", "bc")), "cab"), ("acb", "cab"))
        self.assertEqual(words_of(("abc", ("ac",)), "cab"), ("bca", "cab", "cba"))
        self.assertEqual(words_of(("ab", ()), "ba"), ("ab", "ba"))

    def test_the_empty_word(self):
        for ground in GROUNDS:
            self.assertEqual(words_of(ground, ""), ("",))

    def test_against_a_search(self):
        for ground in FEW_GROUNDS:
            for word in words_to(ground[0], {1: 7, 2: 7, 3: 5, 4: 4, 5: 3}[len(ground[0])]):
                self.assertEqual(words_of(ground, word), heap_of(ground, word), (ground, word))

    def test_seven_letters_against_a_search(self):
        steps = Steps(51)
        for ground in FEW_GROUNDS + grounds_of("abcd"):
            for length in (5, 6, 7):
                word = steps.word(ground[0], length)
                found = words_of(ground, word)
                self.assertEqual(found, heap_of(ground, word), (ground, word))
                self.assertEqual(count_words(ground, word), len(found))

    def test_rising_and_none_twice(self):
        for word in ("abcdeab", "edcbaed", "aabbccd"):
            found = words_of(("abcde", ("ab",)), word)
            self.assertEqual(list(found), sorted(set(found)))

    def test_all_words_of_letters_all_loose(self):
        self.assertEqual(len(words_of(("abcde", ()), "abcdeab")), 1260)

    def test_a_word_somewhat_beyond(self):
        self.assertEqual(words_of(("ab", ("ab",)), "ab" * 6), ("ab" * 6,))
        self.assertEqual(words_of(("ab", ()), "aaaabbbb"), heap_of(("ab", ()), "aaaabbbb"))
        self.assertEqual(len(words_of(("abc", ("ab",)), "abcabcab")), 28)


class CountWords(unittest.TestCase):
    def test_the_empty_word(self):
        for ground in GROUNDS:
            self.assertEqual(count_words(ground, ""), 1)

    def test_against_a_search(self):
        for ground in FEW_GROUNDS:
            for word in words_to(ground[0], {1: 7, 2: 7, 3: 5, 4: 4, 5: 4}[len(ground[0])]):
                self.assertEqual(count_words(ground, word), len(heap_of(ground, word)), (ground, word))

    def test_letters_all_loose(self):
        steps = Steps(52)
        for letters in ("a", "ab", "abc", "abcd", "abcde"):
            for length in range(13):
                word = steps.word(letters, length)
                self.assertEqual(count_words((letters, ()), word), ways_to_mix(word))
        self.assertEqual(count_words(("abcde", ()), "abcdeabcdeab"), 1663200)

    def test_letters_all_tied(self):
        steps = Steps(53)
        for letters in ("a", "ab", "abc", "abcd", "abcde"):
            for length in range(13):
                self.assertEqual(count_words((letters, all_ties(letters)), steps.word(letters, length)), 1)

    def test_twelve_letters(self):
        steps = Steps(54)
        for ground in FEW_GROUNDS:
            for length in (8, 10, 12):
                word = steps.word(ground[0], length)
                ways = ways_to_places(ground, word)[2 ** length - 1]
                self.assertEqual(count_words(ground, word), ways, (ground, word))
                self.assertEqual(count_words(ground, steps.mixed(ground, word)), ways, (ground, word))

    def test_twelve_letters_against_a_search(self):
        ground = ("abcd", ("ab", "bc", "cd"))
        for start in range(3):
            word = Steps(start).word("abcd", 12)
            self.assertEqual(count_words(ground, word), len(heap_of(ground, word)))

    def test_a_word_somewhat_beyond(self):
        self.assertEqual(count_words(("ab", ()), "ab" * 12), comb(24, 12))
        self.assertEqual(count_words(("abcde", ()), "abcde" * 4), ways_to_mix("abcde" * 4))


class Crowds(unittest.TestCase):
    def test_no_ties(self):
        self.assertEqual(crowds(("a", ())), ("a",))
        self.assertEqual(crowds(("ab", ())), ("a", "b", "ab"))
        self.assertEqual(crowds(("abc", ())), ("a", "b", "c", "ab", "ac", "bc", "abc"))
        self.assertEqual(len(crowds(("abcde", ()))), 31)
        self.assertEqual(crowds(("abcde", ()))[-1], "abcde")

    def test_some_ties(self):
        self.assertEqual(crowds(("abc", ("ab", "bc"))), ("a", "b", "c", "ac"))
        self.assertEqual(crowds(("abcd", ("ab", "cd"))), ("a", "b", "c", "d", "ac", "ad", "bc", "bd"))
        self.assertEqual(crowds(("bqxz", ("bz",))), ("b", "q", "x", "z", "bq", "bx", "qx", "qz", "xz", "bqx", "qxz"))

    def test_all_ties(self):
        for letters in ("a", "mz", "abc", "cfyz", "abcde"):
            self.assertEqual(crowds((letters, all_ties(letters))), tuple(letters))

    def test_every_ground_against_a_search(self):
        for ground in GROUNDS:
            self.assertEqual(crowds(ground), loose_crowds(ground), ground)

    def test_a_ground_somewhat_beyond(self):
        ground = ("abcdef", ("ab", "ef"))
        self.assertEqual(crowds(ground), loose_crowds(ground))


class Heaps(unittest.TestCase):
    def test_no_letter_and_one(self):
        for ground in GROUNDS:
            self.assertEqual(heaps(ground, 0), 1)
            self.assertEqual(heaps(ground, 1), len(ground[0]))

    def test_two_letters(self):
        for ground in GROUNDS:
            letters = len(ground[0])
            self.assertEqual(heaps(ground, 2), letters ** 2 - (comb(letters, 2) - len(ground[1])), ground)

    def test_small_lengths_against_a_search(self):
        for ground in FEW_GROUNDS:
            for length in range({1: 7, 2: 7, 3: 6, 4: 5, 5: 4}[len(ground[0])] + 1):
                found = {least(ground, word) for word in words(ground[0], length)}
                self.assertEqual(heaps(ground, length), len(found), (ground, length))

    def test_small_lengths_against_the_plain_words(self):
        for ground in grounds_of("abc") + FEW_GROUNDS:
            for length in range(5):
                found = [word for word in words(ground[0], length) if plain(ground, word) == word]
                self.assertEqual(heaps(ground, length), len(found), (ground, length))

    def test_no_ties(self):
        for letters in ("a", "ab", "abc", "abcd", "abcde"):
            for length in range(41):
                expected = comb(length + len(letters) - 1, len(letters) - 1)
                self.assertEqual(heaps((letters, ()), length), expected)

    def test_all_ties(self):
        for letters in ("a", "ab", "abc", "abcd", "abcde"):
            for length in range(41):
                self.assertEqual(heaps((letters, all_ties(letters)), length), len(letters) ** length)

    def test_to_forty_letters_the_sum_by_crowds_with_signs_by_turns(self):
        for ground in FEW_GROUNDS:
            numbers = [heaps(ground, length) for length in range(41)]
            for length in range(1, 41):
                total = numbers[length]
                for crowd in loose_crowds(ground):
                    if len(crowd) <= length:
                        total += (-1) ** len(crowd) * numbers[length - len(crowd)]
                self.assertEqual(total, 0, (ground, length))

    def test_to_forty_letters_against_a_count_of_layers(self):
        for ground in FEW_GROUNDS:
            self.assertEqual([heaps(ground, length) for length in range(41)], heaps_by_layers(ground, 40), ground)

    def test_every_ground_against_a_count_of_layers(self):
        for ground in GROUNDS:
            numbers = heaps_by_layers(ground, 9)
            for length in (3, 6, 9):
                self.assertEqual(heaps(ground, length), numbers[length], (ground, length))

    def test_a_length_somewhat_beyond(self):
        self.assertEqual(heaps(("abcde", all_ties("abcde")), 60), 5 ** 60)
        self.assertEqual(heaps(("abcde", ()), 60), comb(64, 4))


if __name__ == "__main__":
    unittest.main()
