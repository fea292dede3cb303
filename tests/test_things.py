"""Promises 0.4 and 1.1: what a ground is, and a word of a ground."""

import unittest
from itertools import product

from heapwords.things import is_ground, is_word
from samples import ALL_LETTERS, GROUNDS, NO_TEXTS, all_ties, grounds_of


def texts_of(signs, most):
    return ["".join(row) for size in range(most + 1) for row in product(signs, repeat=size)]


class ThingCase(unittest.TestCase):
    def grounds(self, expected, things):
        for thing in things:
            with self.subTest(thing=thing):
                self.assertIs(is_ground(thing), expected)

    def words(self, expected, ground, things):
        for thing in things:
            with self.subTest(ground=ground, thing=thing):
                self.assertIs(is_word(thing, ground), expected)


class GroundsThatAre(ThingCase):
    def test_one_to_five_letters_without_ties(self):
        self.grounds(True, [(letters, ()) for letters in ALL_LETTERS + ("m", "y", "ad", "vwxyz")])

    def test_one_to_five_letters_with_all_ties(self):
        self.grounds(True, [(letters, all_ties(letters)) for letters in ALL_LETTERS])

    def test_some_ties(self):
        self.grounds(True, [("ab", ("ab",)), ("abc", ("ac",)), ("abcd", ("ad", "bc")), ("acxyz", ("ac", "az", "xy"))])

    def test_every_choice_of_ties(self):
        self.assertEqual(len(GROUNDS), 1 + 1 + 2 + 2 + 8 + 8 + 64 + 64 + 1024 + 1024)
        for ground in GROUNDS:
            self.assertIs(is_ground(ground), True, ground)


class GroundsThatAreNone(ThingCase):
    def test_no_pair(self):
        self.grounds(False, ["", "a", "ab", "abc", (), ("ab",), (("ab",),), ("ab", (), ()), ("ab", ("ab",), ("ab",))])

    def test_a_list_in_the_place_of_the_pair(self):
        self.grounds(False, [["ab", ()], ["ab", ("ab",)], ["a", ()], [("ab", ())]])

    def test_a_pair_the_wrong_way_about(self):
        self.grounds(False, [((), "ab"), (("ab",), "ab")])

    def test_too_few_or_too_many_letters(self):
        self.grounds(False, [("", ()), ("abcdef", ()), ("abcdef", ("ab",)), ("abcdefg", ()), ("uvwxyz", ())])

    def test_letters_doubled_or_not_rising(self):
        self.grounds(False, [(letters, ()) for letters in ("aa", "aab", "abb", "abcc", "aba", "ba", "acb", "bac", "abced")])

    def test_letters_that_are_other_signs(self):
        for code in range(ord(" "), ord("~") + 1):
            sign = chr(code)
            expected = "a" <= sign <= "z"
            self.grounds(expected, [(sign, ())])
            if not expected:
                self.grounds(False, [(sign + "b", ()), ("b" + sign, ()), ("a" + sign + "z", ())])
        self.grounds(False, [("A", ()), ("AB", ()), ("Ab", ()), ("AB", ("AB",)), ("Ab", ("Ab",)), ("12", ("12",))])

    def test_letters_that_are_no_text(self):
        self.grounds(False, [(thing, ()) for thing in NO_TEXTS])
        self.grounds(False, [(thing, ("ab",)) for thing in NO_TEXTS])

    def test_ties_that_are_no_tuple_of_ties(self):
        self.grounds(False, [("ab", thing) for thing in NO_TEXTS if thing not in ((), ("ab",))])
        self.grounds(False, [("ab", thing) for thing in ("", "a", "ab", "abab", [], ["ab"], [("ab",)])])
        self.grounds(False, [("abc", ["ab", "bc"]), ("abc", "ab bc"), ("a", ""), ("a", [])])

    def test_a_tie_that_is_no_text(self):
        for thing in NO_TEXTS + [("a", "b"), ["a", "b"]]:
            self.grounds(False, [("abc", (thing,)), ("abc", ("ab", thing)), ("abc", (thing, "ab")), ("abc", (thing, thing))])

    def test_a_tie_of_another_length(self):
        self.grounds(False, [("abc", (tie,)) for tie in ("", "a", "b", "abc", "abcd", "ab ")])
        self.grounds(False, [("abc", ("a", "ab")), ("abc", ("", "ab")), ("abc", ("ab", "abc"))])

    def test_a_tie_of_a_letter_twice(self):
        self.grounds(False, [("a", ("aa",)), ("ab", ("aa",)), ("ab", ("bb",)), ("ab", ("aa", "ab")), ("ab", ("ab", "bb"))])

    def test_a_tie_of_a_letter_that_is_not_there(self):
        self.grounds(False, [("a", ("ab",)), ("b", ("ab",)), ("ab", ("ac",)), ("bc", ("ab",)), ("ace", ("ac", "bc"))])
        self.grounds(False, [("ab", ("cd",)), ("ab", ("AB",)), ("ab", (" a",)), ("ab", ("Ab",)), ("ab", ("a~",))])

    def test_a_tie_turned_about(self):
        self.grounds(False, [("ab", ("ba",)), ("abc", ("ab", "cb")), ("abc", ("ba", "bc")), ("ab", ("ab", "ba"))])

    def test_ties_doubled(self):
        self.grounds(False, [("ab", ("ab", "ab")), ("abc", ("ab", "bc", "bc")), ("abc", ("ab", "ab", "bc"))])

    def test_ties_not_rising_among_one_another(self):
        self.grounds(False, [("abc", ("bc", "ab")), ("abc", ("ac", "ab")), ("abc", ("bc", "ac"))])
        self.grounds(False, [("abc", ("ab", "bc", "ac")), ("abc", ("ab", "bc", "ab")), ("abcd", ("ab", "cd", "bc"))])

    def test_anything_else(self):
        self.grounds(False, NO_TEXTS)


class GroundsOneByOne(unittest.TestCase):
    """Of all small things of the form of a ground, just the grounds are told True."""

    def test_letters(self):
        good = ("a", "b", "c", "ab", "ac", "bc", "abc")
        for letters in texts_of("abcB 1", 4):
            self.assertIs(is_ground((letters, ())), letters in good, letters)

    def test_ties(self):
        ties = texts_of("abcd", 2) + ["abc", "AB"]
        good = grounds_of("abc")
        told_true = 0
        for size in range(4):
            for row in product(ties, repeat=size):
                answer = is_ground(("abc", row))
                self.assertIs(answer, ("abc", row) in good, row)
                told_true += answer
        self.assertEqual(told_true, 8)


class WordsThatAre(ThingCase):
    def test_no_letter(self):
        for ground in GROUNDS:
            self.assertIs(is_word("", ground), True)

    def test_one_to_twelve_letters(self):
        for letters in ALL_LETTERS:
            ground = (letters, all_ties(letters)[:1])
            self.words(True, ground, [(letters * 12)[:size] for size in range(13)])
            self.words(True, ground, [(letters[::-1] * 12)[:size] for size in range(13)])
            self.words(True, ground, [letters[-1] * size for size in range(13)])

    def test_all_words_of_two_letters(self):
        for word in texts_of("bx", 12):
            self.assertIs(is_word(word, ("bx", ())), True, word)

    def test_ties_make_no_difference(self):
        for ground in grounds_of("abc"):
            for word in texts_of("abcd", 3):
                self.assertIs(is_word(word, ground), "d" not in word, (word, ground))


class WordsThatAreNone(ThingCase):
    def test_thirteen_letters_and_more(self):
        for letters in ALL_LETTERS:
            self.words(False, (letters, ()), [(letters * 100)[:size] for size in (13, 14, 24, 100)])

    def test_letters_that_are_not_in_the_ground(self):
        self.words(False, ("ac", ("ac",)), ["b", "d", "ab", "ba", "abc", "acacab", "aaaaaaaaaaab", "baaaaaaaaaaa"])
        self.words(False, ("a", ()), ["b", "z", "ab", "aaz"])

    def test_other_signs(self):
        ground = ("abcde", ("ab", "cd"))
        for code in range(ord(" "), ord("~") + 1):
            sign = chr(code)
            things = [sign, sign + "a", "a" + sign, "ab" + sign + "cd", "a" * 11 + sign]
            self.words(sign in ("a", "b", "c", "d", "e"), ground, things)
        self.words(False, ground, ["A", "ABC", "aB", " ", "  ", "a b", " ab", "ab ", "1", "a1", "0", "12"])

    def test_things_that_are_no_text(self):
        for ground in (("a", ()), ("ab", ()), ("ab", ("ab",)), ("abcde", all_ties("abcde"))):
            self.words(False, ground, NO_TEXTS + [ground, list(ground)])


if __name__ == "__main__":
    unittest.main()
