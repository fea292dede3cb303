"""Promise 0.3 and the interface: kinds, names, nothing changed, the same told again."""

import copy
import inspect
import unittest

from heapwords.errors import HeapError, NoLetter
from heapwords.things import is_ground, is_word
from heapwords.tied import is_tied, only, told
from samples import GROUNDS, NO_TEXTS

SOME_GROUNDS = GROUNDS[:30] + GROUNDS[-3:]
GROUND = ("abc", ("ab", "bc"))


def calls():
    """Pairs of a function and what is handed in, new things each time."""
    rows = [(is_ground, [copy.deepcopy(thing)]) for thing in NO_TEXTS + SOME_GROUNDS]
    rows += [(is_ground, [["ab", ["ab"]]]), (is_ground, [("ab", ["ab"])]), (is_ground, [(["a", "b"], ())])]
    rows += [(is_word, [copy.deepcopy(thing), GROUND]) for thing in NO_TEXTS + ["", "abc", "abcd", "a" * 13]]
    for ground in SOME_GROUNDS:
        letters = ground[0]
        rows += [(is_word, [letters * 2, ground]), (told, [ground, letters * 2]), (told, [ground, ""])]
        rows += [(is_tied, [ground, letters[0], letters[-1]]), (is_tied, [ground, letters[-1], letters[0]])]
        rows += [(only, [letters * 2, letters[1:]]), (only, [letters, ""])]
    return rows


class Whole(unittest.TestCase):
    def test_what_is_handed_in_is_not_changed(self):
        for function, handed in calls():
            ahead = repr(handed)
            function(*handed)
            self.assertEqual(repr(handed), ahead)

    def test_asked_again_the_same_is_told(self):
        rows = calls()
        first = [function(*handed) for function, handed in rows]
        again = [function(*handed) for function, handed in rows]
        backward = [function(*handed) for function, handed in reversed(rows)]
        self.assertEqual(repr(again), repr(first))
        self.assertEqual(repr(backward[::-1]), repr(first))

    def test_truths_are_truths_themselves(self):
        for function, handed in calls():
            if function in (is_ground, is_word, is_tied):
                self.assertIs(type(function(*handed)), bool)

    def test_no_lists_are_told(self):
        for ground in SOME_GROUNDS:
            pairs = told(ground, ground[0] * 2)
            self.assertIs(type(pairs), tuple)
            for pair in pairs:
                self.assertIs(type(pair), tuple)
                self.assertEqual([type(part) for part in pair], [str, str])
        self.assertIs(type(only("abc", "b")), str)
        self.assertIs(type(only("", "")), str)

    def test_truths_are_no_grounds_and_no_words(self):
        for truth in (True, False):
            self.assertIs(is_ground(truth), False)
            self.assertIs(is_ground(("a", truth)), False)
            self.assertIs(is_word(truth, GROUND), False)


class Interface(unittest.TestCase):
    def test_arguments(self):
        expected = (
            (is_ground, ["thing"]), (is_word, ["thing", "ground"]), (is_tied, ["ground", "one", "other"]),
            (only, ["word", "letters"]), (told, ["ground", "word"]),
        )
        for function, names in expected:
            self.assertEqual(list(inspect.signature(function).parameters), names)

    def test_called_by_the_names_of_the_arguments(self):
        self.assertIs(is_ground(thing=GROUND), True)
        self.assertIs(is_word(ground=GROUND, thing="cab"), True)
        self.assertIs(is_tied(other="a", one="b", ground=GROUND), True)
        self.assertEqual(only(letters="b", word="abab"), "bb")
        self.assertEqual(told(word="a", ground=("a", ())), (("a", "a"),))


class Errors(unittest.TestCase):
    def test_what_stands_under_what(self):
        self.assertEqual(HeapError.__bases__, (ValueError,))
        self.assertTrue(issubclass(NoLetter, HeapError))
        self.assertIsNot(NoLetter, HeapError)

    def test_no_letter_is_taken_by_each_above_it(self):
        for above in (NoLetter, HeapError, ValueError):
            with self.assertRaises(above):
                raise NoLetter("b")

    def test_a_heap_error_is_no_no_letter(self):
        self.assertNotIsInstance(HeapError("b"), NoLetter)
        with self.assertRaises(ValueError):
            raise HeapError("b")

    def test_an_error_keeps_its_words(self):
        self.assertEqual(str(NoLetter("no b")), "no b")


if __name__ == "__main__":
    unittest.main()
