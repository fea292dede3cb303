"""Promises 2.1, 2.2 and 0.2 (a), (b): plain words, layers, the same heap."""

import unittest

from heapwords.layers import alike, layers, plain
from heapwords.tied import told
from samples import FEW_GROUNDS, GROUNDS, all_ties, grounds_of
from searching import Steps, heap_of, is_least, least, left_of_each, tied, words, words_to

PATH = ("abcd", ("ab", "bc", "cd"))


def short_words(ground):
    return words_to(ground[0], {1: 7, 2: 7, 3: 5, 4: 4, 5: 4}[len(ground[0])])


class Plain(unittest.TestCase):
    def test_some_words(self):
        self.assertEqual(plain(("abc", ("ab", "bc")), "cab"), "acb")
        self.assertEqual(plain(("abc", ("ab", "bc")), "cba"), "cba")
        self.assertEqual(plain(PATH, "dcba"), "dcba")
        self.assertEqual(plain(PATH, "dbca"), "badc")
        self.assertEqual(plain(PATH, "dadbcc"), "abddcc")

    def test_a_lesser_letter_waits_behind_one_it_is_tied_to(self):
        ground = ("abc", ("ac",))
        self.assertEqual(plain(ground, "cab"), "bca")
        self.assertEqual(plain(ground, "bca"), "bca")
        self.assertEqual(plain(ground, "bac"), "abc")

    def test_the_empty_word(self):
        for ground in GROUNDS:
            self.assertEqual(plain(ground, ""), "")

    def test_the_least_word_against_a_search(self):
        for ground in FEW_GROUNDS:
            for word in short_words(ground):
                self.assertEqual(plain(ground, word), least(ground, word), (ground, word))

    def test_every_ground_of_four_letters_against_a_search(self):
        steps = Steps(1)
        for ground in grounds_of("abcd"):
            for length in (5, 6, 7):
                word = steps.word("abcd", length)
                self.assertEqual(plain(ground, word), least(ground, word), (ground, word))

    def test_no_ties(self):
        steps = Steps(2)
        for letters in ("a", "ab", "abc", "abcd", "abcde"):
            for length in range(13):
                word = steps.word(letters, length)
                self.assertEqual(plain((letters, ()), word), "".join(sorted(word)))

    def test_all_ties(self):
        steps = Steps(3)
        for letters in ("a", "ab", "abc", "abcd", "abcde"):
            for length in range(13):
                word = steps.word(letters, length)
                self.assertEqual(plain((letters, all_ties(letters)), word), word)

    def test_longer_words(self):
        steps = Steps(4)
        for ground in FEW_GROUNDS:
            for length in (8, 9, 10, 11, 12):
                word = steps.word(ground[0], length)
                first = plain(ground, word)
                self.assertEqual(left_of_each(ground, first), left_of_each(ground, word), (ground, word))
                self.assertTrue(is_least(ground, first), (ground, word))
                self.assertEqual(plain(ground, first), first)
                for turn in range(3):
                    self.assertEqual(plain(ground, steps.mixed(ground, word)), first, (ground, word))

    def test_twelve_letters_against_a_search(self):
        for ground in (PATH, ("abc", ("ab", "bc")), ("abcde", ("ab", "ac", "ad", "bc", "be", "cd", "ce", "de"))):
            for start in range(3):
                word = Steps(start).word(ground[0], 12)
                for other in heap_of(ground, word)[::17]:
                    self.assertEqual(plain(ground, other), least(ground, word), (ground, word))

    def test_a_word_somewhat_beyond(self):
        self.assertEqual(plain(("ab", ()), "ba" * 12), "a" * 12 + "b" * 12)
        self.assertEqual(plain(("ab", ("ab",)), "ba" * 12), "ba" * 12)
        self.assertEqual(plain(("abcdef", ("af",)), "fedcba"), "bcdefa")


class Alike(unittest.TestCase):
    def test_each_two_words_against_a_search(self):
        for ground in [ground for ground in FEW_GROUNDS if len(ground[0]) <= 3]:
            for length in range(5):
                for one in words(ground[0], length):
                    heap = heap_of(ground, one)
                    for other in words(ground[0], length):
                        self.assertIs(alike(ground, one, other), other in heap, (ground, one, other))

    def test_just_where_plain_words_layers_and_what_is_told_are_the_same(self):
        for ground in [ground for ground in FEW_GROUNDS if len(ground[0]) <= 4]:
            by_told = {}
            for word in words_to(ground[0], 4):
                by_told.setdefault(told(ground, word), []).append(word)
            self.assertEqual(len({plain(ground, row[0]) for row in by_told.values()}), len(by_told))
            self.assertEqual(len({layers(ground, row[0]) for row in by_told.values()}), len(by_told))
            for row in by_told.values():
                self.assertEqual(tuple(sorted(row)), heap_of(ground, row[0]))
                self.assertEqual(len({plain(ground, word) for word in row}), 1, (ground, row))
                self.assertEqual(len({layers(ground, word) for word in row}), 1, (ground, row))

    def test_longer_words(self):
        steps = Steps(5)
        for ground in FEW_GROUNDS:
            for length in (6, 9, 12):
                one = steps.word(ground[0], length)
                mixed = steps.mixed(ground, one)
                self.assertIs(alike(ground, one, mixed), True)
                self.assertIs(alike(ground, mixed, one), True)
                # Two letters exchanged wherever they stand: mostly it is another heap.
                k = steps.below(length - 1)
                other = mixed[:k] + mixed[k + 1] + mixed[k] + mixed[k + 2:]
                expected = left_of_each(ground, one) == left_of_each(ground, other)
                self.assertIs(alike(ground, one, other), expected, (ground, one, other))
                self.assertIs(plain(ground, one) == plain(ground, other), expected)
                self.assertIs(layers(ground, one) == layers(ground, other), expected)
                self.assertIs(told(ground, one) == told(ground, other), expected)

    def test_other_letters_or_another_number_of_them(self):
        for ground in (("ab", ()), ("ab", ("ab",))):
            for one, other in (("", "a"), ("a", "b"), ("a", "aa"), ("aab", "abb"), ("ab", "aba"), ("ab", "abb")):
                self.assertIs(alike(ground, one, other), False)
                self.assertIs(alike(ground, other, one), False)

    def test_the_same_word(self):
        for ground in FEW_GROUNDS:
            for word in ("", ground[0], ground[0][::-1] * 2):
                self.assertIs(alike(ground, word, word), True)


class Layers(unittest.TestCase):
    def are_layers(self, ground, word, rows):
        self.assertIs(type(rows), tuple)
        self.assertEqual(left_of_each(ground, "".join(rows)), left_of_each(ground, word), (ground, word))
        for row in rows:
            self.assertIs(type(row), str)
            self.assertNotEqual(row, "")
            self.assertEqual(row, "".join(sorted(set(row))), (ground, word))
            self.assertFalse(any(tied(ground, a, b) for a in row for b in row if a != b), (ground, word))
        for ahead, row in zip(rows, rows[1:]):
            for letter in row:
                self.assertTrue(any(tied(ground, letter, other) for other in ahead), (ground, word))

    def test_some_words(self):
        self.assertEqual(layers(("abc", ("ab", "bc")), "cab"), ("ac", "b"))
        self.assertEqual(layers(PATH, "dcba"), ("d", "c", "b", "a"))
        self.assertEqual(layers(PATH, "dbca"), ("bd", "ac"))
        self.assertEqual(layers(PATH, "acbdcbaa"), ("ac", "bd", "c", "b", "a", "a"))
        self.assertEqual(layers(("abc", ("ac",)), "cab"), ("bc", "a"))

    def test_a_letter_lies_on_itself(self):
        self.assertEqual(layers(("a", ()), "aaa"), ("a", "a", "a"))
        self.assertEqual(layers(("ab", ()), "babbab"), ("ab", "ab", "b", "b"))

    def test_the_empty_word(self):
        for ground in GROUNDS:
            self.assertEqual(layers(ground, ""), ())

    def test_one_letter(self):
        for ground in FEW_GROUNDS:
            for letter in ground[0]:
                self.assertEqual(layers(ground, letter), (letter,))

    def test_short_words(self):
        for ground in FEW_GROUNDS:
            for word in short_words(ground):
                rows = layers(ground, word)
                self.are_layers(ground, word, rows)
                self.assertIn("".join(rows), heap_of(ground, word))
                self.assertEqual(rows, layers(ground, least(ground, word)), (ground, word))

    def test_longer_words(self):
        steps = Steps(6)
        for ground in FEW_GROUNDS + grounds_of("abcd"):
            for length in (7, 10, 12):
                word = steps.word(ground[0], length)
                rows = layers(ground, word)
                self.are_layers(ground, word, rows)
                for turn in range(2):
                    self.assertEqual(layers(ground, steps.mixed(ground, word)), rows, (ground, word))

    def test_all_ties(self):
        self.assertEqual(layers(("abc", all_ties("abc")), "cabbac"), ("c", "a", "b", "b", "a", "c"))

    def test_a_word_somewhat_beyond(self):
        self.assertEqual(layers(("ab", ()), "ba" * 12), ("ab",) * 12)
        self.assertEqual(layers(("abcdef", ("af",)), "fedcba"), ("bcdef", "a"))


if __name__ == "__main__":
    unittest.main()
