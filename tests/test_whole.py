"""Promises 0.2 (f), 0.3 and the interface: kinds, names, nothing changed, the same told again."""

import copy
import inspect
import unittest

from heapwords.counting import count_words, crowds, heaps, words_of
from heapwords.errors import HeapError, NoLetter
from heapwords.fronts import begins, front, left, taken
from heapwords.layers import alike, layers, plain
from heapwords.parts import both, common
from heapwords.things import is_ground, is_word
from heapwords.tied import is_tied, only, told
from samples import FEW_GROUNDS, GROUNDS, NO_TEXTS
from searching import Steps, heap_of, words

SOME_GROUNDS = GROUNDS[:30] + GROUNDS[-3:]
GROUND = ("abc", ("ab", "bc"))


def calls():
    """Pairs of a function and what is handed in, new things each time."""
    rows = [(is_ground, [copy.deepcopy(thing)]) for thing in NO_TEXTS + SOME_GROUNDS]
    rows += [(is_ground, [["ab", ["ab"]]]), (is_ground, [("ab", ["ab"])]), (is_ground, [(["a", "b"], ())])]
    rows += [(is_word, [copy.deepcopy(thing), GROUND]) for thing in NO_TEXTS + ["", "abc", "abcd", "a" * 13]]
    for ground in SOME_GROUNDS:
        letters = ground[0]
        rows += [(is_word, [letters * 2, ground]), (told, [ground, letters * 2]), (told, [ground, ""])]
        rows += [(is_tied, [ground, letters[0], letters[-1]]), (is_tied, [ground, letters[-1], letters[0]])]
        rows += [(only, [letters * 2, letters[1:]]), (only, [letters, ""])]
    for ground in FEW_GROUNDS:
        rows += calls_of_heaps(ground)
    return rows


def calls_of_heaps(ground):
    letters = ground[0]
    some = ("", letters[0], letters, letters[::-1], (letters[::-1] + letters)[:7])
    rows = [(crowds, [ground])] + [(heaps, [ground, length]) for length in (0, 1, 2, 7, 40)]
    for word in some:
        rows += [(function, [ground, word]) for function in (plain, layers, front, words_of, count_words)]
        rows += [(taken, [ground, word, letter]) for letter in letters]
        for other in some:
            rows += [(function, [ground, word, other]) for function in (alike, left, begins, common, both)]
    return rows


def answer_of(function, handed):
    """What is told, or the one error that may come."""
    try:
        return function(*handed)
    except NoLetter:
        return NoLetter


class Whole(unittest.TestCase):
    def test_what_is_handed_in_is_not_changed(self):
        for function, handed in calls():
            ahead = repr(handed)
            answer_of(function, handed)
            self.assertEqual(repr(handed), ahead)

    def test_asked_again_the_same_is_told(self):
        rows = calls()
        first = [answer_of(function, handed) for function, handed in rows]
        again = [answer_of(function, handed) for function, handed in rows]
        backward = [answer_of(function, handed) for function, handed in reversed(rows)]
        self.assertEqual(repr(again), repr(first))
        self.assertEqual(repr(backward[::-1]), repr(first))

    def test_each_answer_is_of_its_kind(self):
        kinds = {
            is_ground: bool, is_word: bool, is_tied: bool, only: str, told: tuple, plain: str, layers: tuple,
            alike: bool, front: str, taken: str, left: str, begins: bool, common: str, both: str, words_of: tuple,
            count_words: int, crowds: tuple, heaps: int,
        }
        answered = {}
        for function, handed in calls():
            answer = answer_of(function, handed)
            answered.setdefault(function, []).append(answer)
            if answer is not NoLetter:
                self.assertIs(type(answer), kinds[function], (function, handed))
            if function in (layers, words_of, crowds):
                self.assertEqual([part for part in answer if type(part) is not str], [], (function, handed))
        self.assertEqual(set(answered), set(kinds))
        # Only these refuse, and each of them does so here and also answers.
        refusing = {function for function in answered if NoLetter in answered[function]}
        self.assertEqual(refusing, {taken, left, both})
        for function in refusing:
            self.assertNotEqual(set(answered[function]), {NoLetter})

    def test_truths_both_ways(self):
        for function in (alike, begins):
            answers = [function(*handed) for asked, handed in calls() if asked is function]
            self.assertEqual({repr(answer) for answer in answers}, {"True", "False"})

    def test_no_two_calls_share_what_they_keep(self):
        one = ("abc", ("ab",))
        other = ("abc", ("ac",))
        for function in (plain, layers, front, words_of, count_words):
            alone = [function(one, "cab"), function(other, "cab")]
            self.assertEqual([function(one, "cab"), function(other, "cab"), function(one, "cab")], alone + alone[:1])
        self.assertNotEqual(crowds(one), crowds(other))
        self.assertEqual(plain(one, "cab"), "abc")
        self.assertEqual(plain(other, "cab"), "bca")

    def test_no_lists_are_told(self):
        for ground in SOME_GROUNDS:
            pairs = told(ground, ground[0] * 2)
            self.assertIs(type(pairs), tuple)
            for pair in pairs:
                self.assertIs(type(pair), tuple)
                self.assertEqual([type(part) for part in pair], [str, str])
        self.assertIs(type(only("abc", "b")), str)
        self.assertIs(type(only("", "")), str)

    def test_truths_are_no_grounds_and_no_words(self):
        for truth in (True, False):
            self.assertIs(is_ground(truth), False)
            self.assertIs(is_ground(("a", truth)), False)
            self.assertIs(is_word(truth, GROUND), False)


class Backward(unittest.TestCase):
    """Words of one heap, turned about, are words of one heap."""

    def test_each_two_short_words(self):
        for ground in [ground for ground in FEW_GROUNDS if len(ground[0]) <= 3]:
            for length in range(5):
                for one in words(ground[0], length):
                    for other in words(ground[0], length):
                        expected = other in heap_of(ground, one)
                        self.assertIs(alike(ground, one[::-1], other[::-1]), expected, (ground, one, other))

    def test_all_words_of_a_heap(self):
        steps = Steps(61)
        for ground in FEW_GROUNDS:
            word = steps.word(ground[0], 7)
            turned = tuple(sorted(other[::-1] for other in words_of(ground, word)))
            self.assertEqual(turned, words_of(ground, word[::-1]), (ground, word))
            self.assertEqual(len({layers(ground, other) for other in turned}), 1)

    def test_twelve_letters(self):
        steps = Steps(62)
        for ground in FEW_GROUNDS:
            for turn in range(4):
                one = steps.word(ground[0], 12)
                other = steps.mixed(ground, one)
                self.assertIs(alike(ground, one, other), True)
                self.assertIs(alike(ground, one[::-1], other[::-1]), True, (ground, one, other))
                self.assertEqual(plain(ground, one[::-1]), plain(ground, other[::-1]))
                self.assertEqual(count_words(ground, one[::-1]), count_words(ground, one), (ground, one))


class Interface(unittest.TestCase):
    def test_arguments(self):
        expected = (
            (is_ground, ["thing"]), (is_word, ["thing", "ground"]), (is_tied, ["ground", "one", "other"]),
            (only, ["word", "letters"]), (told, ["ground", "word"]), (plain, ["ground", "word"]),
            (layers, ["ground", "word"]), (alike, ["ground", "one", "other"]), (front, ["ground", "word"]),
            (taken, ["ground", "word", "letter"]), (left, ["ground", "one", "word"]),
            (begins, ["ground", "one", "word"]), (common, ["ground", "one", "other"]),
            (both, ["ground", "one", "other"]), (words_of, ["ground", "word"]), (count_words, ["ground", "word"]),
            (crowds, ["ground"]), (heaps, ["ground", "length"]),
        )
        for function, names in expected:
            self.assertEqual(list(inspect.signature(function).parameters), names)

    def test_called_by_the_names_of_the_arguments(self):
        self.assertIs(is_ground(thing=GROUND), True)
        self.assertIs(is_word(ground=GROUND, thing="cab"), True)
        self.assertIs(is_tied(other="a", one="b", ground=GROUND), True)
        self.assertEqual(only(letters="b", word="abab"), "bb")
        self.assertEqual(told(word="a", ground=("a", ())), (("a", "a"),))
        self.assertEqual(plain(word="cab", ground=GROUND), "acb")
        self.assertEqual(layers(word="cab", ground=GROUND), ("ac", "b"))
        self.assertIs(alike(other="acb", one="cab", ground=GROUND), True)
        self.assertEqual(front(word="cab", ground=GROUND), "ac")
        self.assertEqual(taken(letter="a", word="cab", ground=GROUND), "cb")
        self.assertEqual(left(word="cab", one="a", ground=GROUND), "cb")
        self.assertIs(begins(word="cab", one="a", ground=GROUND), True)
        self.assertEqual(common(other="ab", one="cab", ground=GROUND), "a")
        self.assertEqual(both(other="a", one="c", ground=GROUND), "ac")
        self.assertEqual(words_of(word="cab", ground=GROUND), ("acb", "cab"))
        self.assertEqual(count_words(word="cab", ground=GROUND), 2)
        self.assertEqual(crowds(ground=GROUND), ("a", "b", "c", "ac"))
        self.assertEqual(heaps(length=2, ground=GROUND), 8)

    def test_one_and_word_of_left_and_begins_are_not_exchanged(self):
        self.assertEqual(left(GROUND, "a", "ab"), "b")
        self.assertRaises(NoLetter, left, GROUND, "ab", "a")
        self.assertIs(begins(GROUND, "a", "ab"), True)
        self.assertIs(begins(GROUND, "ab", "a"), False)


class Errors(unittest.TestCase):
    def test_what_stands_under_what(self):
        self.assertEqual(HeapError.__bases__, (ValueError,))
        self.assertTrue(issubclass(NoLetter, HeapError))
        self.assertIsNot(NoLetter, HeapError)

    def test_no_letter_is_taken_by_each_above_it(self):
        for above in (NoLetter, HeapError, ValueError):
            with self.assertRaises(above):
                raise NoLetter("b")

    def test_a_heap_error_is_no_no_letter(self):
        self.assertNotIsInstance(HeapError("b"), NoLetter)
        with self.assertRaises(ValueError):
            raise HeapError("b")

    def test_what_is_raised_is_just_no_letter(self):
        for function, handed in calls():
            try:
                function(*handed)
            except Exception as error:
                self.assertIs(type(error), NoLetter, (function, handed))
                self.assertIsInstance(error, HeapError)
                self.assertIsInstance(error, ValueError)

    def test_an_error_keeps_its_words(self):
        self.assertEqual(str(NoLetter("no b")), "no b")


if __name__ == "__main__":
    unittest.main()
