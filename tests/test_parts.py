"""Promises 4.1 and 0.2 (d): the greatest common beginning, and the least heap that goes on from both."""

import unittest
from collections import Counter
from os.path import commonprefix

from heapwords.errors import HeapError, NoLetter
from heapwords.fronts import begins
from heapwords.layers import plain
from heapwords.parts import both, common
from samples import FEW_GROUNDS, all_ties
from searching import Steps, beginnings, heap_of, is_least, least, left_of_each, words, words_to

PATH = ("abcd", ("ab", "bc", "cd"))
UP_TO_THREE = [ground for ground in FEW_GROUNDS if len(ground[0]) <= 3]


def least_beginnings(ground, word):
    """By search: the least word of each beginning."""
    return {least(ground, other[:k]) for other in heap_of(ground, word) for k in range(len(other) + 1)}


def pairs(ground, steps, turns):
    """Pairs of words of up to twelve letters, of which most share a beginning."""
    found = []
    for turn in range(turns):
        shared = steps.word(ground[0], steps.below(13))
        room = 12 - len(shared)
        one = steps.mixed(ground, shared + steps.word(ground[0], steps.below(room + 1)))
        other = steps.mixed(ground, shared + steps.word(ground[0], steps.below(room + 1)))
        found.append((one, other))
    found.append((steps.word(ground[0], 12), steps.word(ground[0], 12)))
    return found


class Common(unittest.TestCase):
    def test_some_words(self):
        self.assertEqual(common(PATH, "dbca", "dacb"), "d")
        self.assertEqual(common(PATH, "dbca", "bdac"), "badc")
        self.assertEqual(common(PATH, "acbd", "cadd"), "acd")
        self.assertEqual(common(("ab", ()), "abbb", "baab"), "abb")

    def test_nothing_in_common(self):
        self.assertEqual(common(("ab", ("ab",)), "ab", "ba"), "")
        self.assertEqual(common(("ab", ()), "aaa", "bbb"), "")
        self.assertEqual(common(PATH, "ab", "ba"), "")

    def test_the_empty_word_and_the_same_heap(self):
        steps = Steps(31)
        for ground in FEW_GROUNDS:
            for length in range(13):
                word = steps.word(ground[0], length)
                self.assertEqual(common(ground, "", word), "")
                self.assertEqual(common(ground, word, ""), "")
                first = common(ground, word, steps.mixed(ground, word))
                self.assertEqual(left_of_each(ground, first), left_of_each(ground, word), (ground, word))
                self.assertTrue(is_least(ground, first), (ground, word))

    def test_a_beginning_of_the_other(self):
        steps = Steps(32)
        for ground in FEW_GROUNDS:
            for length in range(8):
                one = steps.word(ground[0], length)
                other = steps.mixed(ground, one + steps.word(ground[0], 5))
                self.assertEqual(common(ground, one, other), least(ground, one))
                self.assertEqual(common(ground, other, one), least(ground, one))

    def test_each_two_words_against_a_search(self):
        for ground in UP_TO_THREE:
            short = words_to(ground[0], 3) + [ground[0] * 2, ground[0][::-1] + ground[0]]
            of_each = {word: least_beginnings(ground, word) for word in short}
            for one in short:
                for other in short:
                    shared = of_each[one] & of_each[other]
                    longest = max(len(word) for word in shared)
                    self.assertEqual([common(ground, one, other)], [word for word in shared if len(word) == longest])

    def test_up_to_twelve_letters_against_all_common_beginnings(self):
        steps = Steps(33)
        for ground in FEW_GROUNDS:
            for one, other in pairs(ground, steps, 4):
                answer = common(ground, one, other)
                shared = beginnings(ground, one)
                also = beginnings(ground, other)
                shared = {key: shared[key] for key in shared if key in also}
                self.assertIn(left_of_each(ground, answer), shared, (ground, one, other))
                self.assertEqual(len(answer), max(len(word) for word in shared.values()), (ground, one, other))
                self.assertTrue(is_least(ground, answer), (ground, one, other))
                self.assertLessEqual(set(shared), set(beginnings(ground, answer)), (ground, one, other))
                for word in list(shared.values())[::7]:
                    self.assertIs(begins(ground, word, answer), True, (ground, word, answer))

    def test_begins_both_and_is_the_same_exchanged_or_written_otherwise(self):
        steps = Steps(34)
        for ground in FEW_GROUNDS:
            for one, other in pairs(ground, steps, 6):
                answer = common(ground, one, other)
                self.assertIs(begins(ground, answer, one), True)
                self.assertIs(begins(ground, answer, other), True)
                self.assertEqual(common(ground, other, one), answer)
                self.assertEqual(common(ground, steps.mixed(ground, one), steps.mixed(ground, other)), answer)

    def test_no_ties(self):
        steps = Steps(35)
        for letters in ("a", "ab", "abc", "abcd", "abcde"):
            for turn in range(10):
                one = steps.word(letters, 12)
                other = steps.word(letters, 12)
                expected = "".join(sorted((Counter(one) & Counter(other)).elements()))
                self.assertEqual(common((letters, ()), one, other), expected)

    def test_all_ties(self):
        steps = Steps(36)
        for letters in ("a", "ab", "abc", "abcd", "abcde"):
            ground = (letters, all_ties(letters))
            for one, other in pairs(ground, steps, 10):
                self.assertEqual(common(ground, one, other), commonprefix([one, other]))


class Both(unittest.TestCase):
    def test_some_words(self):
        self.assertEqual(both(PATH, "a", "c"), "ac")
        self.assertEqual(both(PATH, "ba", "bd"), "bad")
        self.assertEqual(both(PATH, "dbac", "db"), "badc")
        self.assertEqual(both(("ab", ()), "abbb", "baab"), "aabbb")

    def test_none(self):
        for one, other in (("ab", "ba"), ("a", "b"), ("aab", "ab"), ("ab", "aa")):
            self.assertRaises(NoLetter, both, ("ab", ("ab",)), one, other)
        self.assertRaises(NoLetter, both, PATH, "dc", "db")
        self.assertRaises(NoLetter, both, PATH, "ac", "b")

    def test_a_ring_of_ties(self):
        ring = ("abcd", ("ab", "ad", "bc", "cd"))
        self.assertRaises(NoLetter, both, ring, "ac", "bd")
        self.assertRaises(NoLetter, both, ring, "a", "d")
        self.assertEqual(both(ring, "a", "c"), "ac")
        self.assertEqual(both(ring, "bac", "bca"), "bac")
        self.assertEqual(both(ring, "caa", "acc"), "aacc")

    def test_the_same_letter_left_of_both_but_not_at_the_front(self):
        # Behind nothing in common, ab and cb both go on to b, yet neither b can be the other.
        self.assertRaises(NoLetter, both, ("abc", ("ab", "bc")), "ab", "cb")
        self.assertRaises(NoLetter, both, ("abc", ("ab",)), "ab", "cb")
        self.assertEqual(both(("abc", ("ab",)), "ab", "ca"), "abc")

    def test_the_empty_word_and_the_same_heap(self):
        steps = Steps(41)
        for ground in FEW_GROUNDS:
            for length in range(8):
                word = steps.word(ground[0], length)
                self.assertEqual(both(ground, "", word), least(ground, word))
                self.assertEqual(both(ground, word, ""), least(ground, word))
                self.assertEqual(both(ground, word, steps.mixed(ground, word)), least(ground, word))

    def test_a_beginning_of_the_other(self):
        steps = Steps(42)
        for ground in FEW_GROUNDS:
            for length in range(9):
                one = steps.word(ground[0], length)
                other = steps.mixed(ground, one + steps.word(ground[0], 12 - length))
                answer = both(ground, one, other)
                self.assertEqual(left_of_each(ground, answer), left_of_each(ground, other), (ground, one, other))
                self.assertEqual(both(ground, other, one), answer)

    def test_each_two_words_against_all_heaps_that_go_on(self):
        for ground in UP_TO_THREE:
            most = {1: 4, 2: 3, 3: 2}[len(ground[0])]
            of_each = {}
            for length in range(2 * most + 2):
                for word in words(ground[0], length):
                    if word == least(ground, word):
                        of_each[word] = least_beginnings(ground, word)
            short = words_to(ground[0], most)
            for one in short:
                for other in short:
                    start = {least(ground, one), least(ground, other)}
                    on = [word for word in of_each if start <= of_each[word]]
                    if not on:
                        self.assertRaises(NoLetter, both, ground, one, other)
                        continue
                    answer = both(ground, one, other)
                    self.assertEqual([word for word in on if len(word) == len(on[0])], [answer], (ground, one, other))
                    self.assertTrue(all(answer in of_each[word] for word in on), (ground, one, other))

    def test_up_to_twelve_letters_by_what_is_left_of_each_tie(self):
        # A heap goes on from both just if of each letter and each tie the one has a beginning of what the other has.
        steps = Steps(43)
        seen = Counter()
        for ground in FEW_GROUNDS:
            for one, other in pairs(ground, steps, 12):
                sides = list(zip(left_of_each(ground, one), left_of_each(ground, other)))
                goes_on = all(a.startswith(b) or b.startswith(a) for a, b in sides)
                seen[goes_on] += 1
                if not goes_on:
                    self.assertRaises(NoLetter, both, ground, one, other)
                    self.assertRaises(NoLetter, both, ground, other, one)
                    continue
                answer = both(ground, one, other)
                expected = tuple(max(a, b, key=len) for a, b in sides)
                self.assertEqual(left_of_each(ground, answer), expected, (ground, one, other))
                self.assertTrue(is_least(ground, answer), (ground, one, other))
                self.assertEqual(len(answer), len(one) + len(other) - len(common(ground, one, other)))
                self.assertEqual(both(ground, other, one), answer)
                self.assertEqual(both(ground, steps.mixed(ground, one), steps.mixed(ground, other)), answer)
        self.assertGreater(min(seen[True], seen[False]), 50)

    def test_all_that_go_on_from_both_go_on_from_it(self):
        steps = Steps(44)
        for ground in FEW_GROUNDS:
            for turn in range(4):
                whole = steps.word(ground[0], 12)
                found = list(beginnings(ground, whole).values())
                for again in range(6):
                    one = steps.mixed(ground, found[steps.below(len(found))])
                    other = steps.mixed(ground, found[steps.below(len(found))])
                    answer = both(ground, one, other)
                    for start in (one, other):
                        self.assertIs(begins(ground, start, answer), True, (ground, one, other))
                    self.assertIs(begins(ground, answer, whole), True, (ground, one, other, whole))
                    self.assertEqual(len(answer), len(one) + len(other) - len(common(ground, one, other)))

    def test_twelve_letters_each_and_up_to_twenty_four_told(self):
        steps = Steps(45)
        ground = ("abcde", ("ab", "ae", "be", "cd", "ce"))
        for length in range(13):
            shared = steps.word("abcde", length)
            rest = steps.word("ab", 12 - length)
            more = steps.word("cd", 12 - length)
            one = steps.mixed(ground, shared + rest)
            other = steps.mixed(ground, shared + more)
            answer = both(ground, one, other)
            self.assertEqual(answer, plain(ground, shared + rest + more))
            self.assertEqual(len(answer), 24 - length)
            self.assertEqual(common(ground, one, other), plain(ground, shared))
        self.assertEqual(both(("ab", ()), "a" * 12, "b" * 12), "a" * 12 + "b" * 12)
        self.assertEqual(both(("ab", ()), "b" * 12, "a" * 12), "a" * 12 + "b" * 12)
        self.assertEqual(both(("bqx", ("bq",)), "x" * 12, "qb" * 6), "qb" * 6 + "x" * 12)

    def test_no_ties(self):
        steps = Steps(46)
        for letters in ("a", "ab", "abc", "abcd", "abcde"):
            for turn in range(10):
                one = steps.word(letters, 12)
                other = steps.word(letters, 12)
                expected = "".join(sorted((Counter(one) | Counter(other)).elements()))
                self.assertEqual(both((letters, ()), one, other), expected)

    def test_all_ties(self):
        steps = Steps(47)
        for letters in ("a", "ab", "abc", "abcd", "abcde"):
            ground = (letters, all_ties(letters))
            for one, other in pairs(ground, steps, 20):
                if one.startswith(other) or other.startswith(one):
                    self.assertEqual(both(ground, one, other), max(one, other, key=len))
                else:
                    self.assertRaises(NoLetter, both, ground, one, other)

    def test_refused_by_each_error_above(self):
        for above in (NoLetter, HeapError, ValueError):
            with self.assertRaises(above):
                both(PATH, "a", "b")


if __name__ == "__main__":
    unittest.main()
