"""Promises 0.4, 1.2 and 1.3: what is tied, only, told."""

import unittest
from itertools import product

from heapwords.tied import is_tied, only, told
from samples import ALL_LETTERS, GROUNDS, all_ties


class Tied(unittest.TestCase):
    def test_each_pair_of_one_ground(self):
        ground = ("abcd", ("ab", "bd", "cd"))
        tied = ("aa", "ab", "ba", "bb", "bd", "db", "cc", "cd", "dc", "dd")
        loose = ("ac", "ca", "ad", "da", "bc", "cb")
        for pair in tied:
            self.assertIs(is_tied(ground, pair[0], pair[1]), True, pair)
        for pair in loose:
            self.assertIs(is_tied(ground, pair[0], pair[1]), False, pair)
        self.assertEqual(len(tied) + len(loose), 16)

    def test_each_letter_is_tied_to_itself(self):
        for ground in GROUNDS:
            for letter in ground[0]:
                self.assertIs(is_tied(ground, letter, letter), True, (ground, letter))

    def test_no_ties_and_all_ties(self):
        for letters in ALL_LETTERS:
            for one, other in product(letters, repeat=2):
                self.assertIs(is_tied((letters, ()), one, other), one == other)
                self.assertIs(is_tied((letters, all_ties(letters)), one, other), True)

    def test_each_pair_of_every_ground_in_both_orders(self):
        for ground in GROUNDS:
            for pair in all_ties(ground[0]):
                expected = pair in ground[1]
                self.assertIs(is_tied(ground, pair[0], pair[1]), expected, (ground, pair))
                self.assertIs(is_tied(ground, pair[1], pair[0]), expected, (ground, pair))

    def test_what_is_tied_to_one_letter_is_not_tied_among_itself(self):
        ground = ("abc", ("ab", "bc"))
        self.assertIs(is_tied(ground, "a", "c"), False)
        self.assertIs(is_tied(ground, "c", "a"), False)

    def test_a_ground_somewhat_beyond(self):
        self.assertIs(is_tied(("abcdef", ("ef",)), "f", "e"), True)
        self.assertIs(is_tied(("abcdef", ("ef",)), "f", "a"), False)


class Only(unittest.TestCase):
    def test_no_letters(self):
        for word in ("", "a", "abcabc"):
            self.assertEqual(only(word, ""), "")

    def test_all_letters(self):
        for word in ("", "a", "cba", "abcabccbaacb"):
            self.assertEqual(only(word, "abc"), word)

    def test_some_letters(self):
        self.assertEqual(only("abcabc", "a"), "aa")
        self.assertEqual(only("abcabc", "ac"), "acac")
        self.assertEqual(only("cbacab", "bc"), "cbcb")
        self.assertEqual(only("edcbaedcbaed", "bd"), "dbdbd")

    def test_the_empty_word(self):
        for letters in ("", "a", "abc", "abcde"):
            self.assertEqual(only("", letters), "")

    def test_letters_that_the_word_has_not(self):
        self.assertEqual(only("abab", "c"), "")
        self.assertEqual(only("abab", "bz"), "bb")

    def test_the_order_of_the_letters_makes_no_difference(self):
        for letters in ("ac", "ca", "aca", "ccaa"):
            self.assertEqual(only("cabbac", letters), "caac")

    def test_letters_side_by_side_or_apart(self):
        self.assertEqual(only("aacbbacc", "ac"), "aacacc")

    def test_a_word_somewhat_beyond(self):
        self.assertEqual(only("abc" * 8, "b"), "b" * 8)

    def test_against_one_sign_after_another_taken_out(self):
        for word in product("abcd", repeat=5):
            for letters in ("", "a", "d", "bc", "ad", "abd", "abcd"):
                rest = "".join(word)
                for gone in [sign for sign in "abcd" if sign not in letters]:
                    rest = rest.replace(gone, "")
                self.assertEqual(only("".join(word), letters), rest)


class Told(unittest.TestCase):
    def test_letters_first_then_ties(self):
        expected = (("a", "aa"), ("b", "bb"), ("c", "c"), ("ab", "abab"), ("bc", "bcb"))
        self.assertEqual(told(("abc", ("ab", "bc")), "abcab"), expected)

    def test_ties_in_their_order(self):
        expected = (
            ("b", "bb"), ("k", "k"), ("x", "xxx"), ("z", ""),
            ("bk", "bkb"), ("bx", "xbxxb"), ("kz", "k"), ("xz", "xxx"),
        )
        self.assertEqual(told(("bkxz", ("bk", "bx", "kz", "xz")), "xbkxxb"), expected)

    def test_no_ties(self):
        self.assertEqual(told(("ab", ()), "baab"), (("a", "aa"), ("b", "bb")))

    def test_one_letter(self):
        self.assertEqual(told(("q", ()), "qqq"), (("q", "qqq"),))
        self.assertEqual(told(("q", ()), ""), (("q", ""),))

    def test_the_empty_word(self):
        expected = (("a", ""), ("b", ""), ("c", ""), ("ac", ""))
        self.assertEqual(told(("abc", ("ac",)), ""), expected)
        for ground in GROUNDS:
            self.assertEqual(told(ground, ""), tuple((part, "") for part in tuple(ground[0]) + ground[1]))

    def test_twelve_letters(self):
        expected = (
            ("a", "aaa"), ("b", "bbb"), ("c", "cc"), ("d", "dd"), ("e", "ee"),
            ("ae", "aeaea"), ("bc", "bcbcb"),
        )
        self.assertEqual(told(("abcde", ("ae", "bc")), "abcdeabcdeab"), expected)

    def test_a_word_somewhat_beyond(self):
        expected = (("a", "a" * 12), ("b", "b" * 12), ("ab", "ab" * 12))
        self.assertEqual(told(("ab", ("ab",)), "ab" * 12), expected)

    def test_every_ground(self):
        for ground in GROUNDS:
            word = (ground[0][::-1] + ground[0] * 6)[:12]
            pairs = told(ground, word)
            self.assertEqual([pair[0] for pair in pairs], list(ground[0]) + list(ground[1]))
            for part, rest in pairs:
                self.assertEqual(rest, "".join(sign for sign in word if sign in tuple(part)))

    def test_changing_places_is_not_told_of_letters_that_are_not_tied(self):
        ground = ("abc", ("ab",))
        self.assertEqual(told(ground, "acb"), told(ground, "cab"))
        self.assertNotEqual(told(ground, "acb"), told(ground, "bca"))


if __name__ == "__main__":
    unittest.main()
