"""Grounds and things that the tests share."""

from itertools import combinations


def all_ties(letters):
    return tuple("".join(pair) for pair in combinations(letters, 2))


def grounds_of(letters):
    """Every ground that has just these letters."""
    ties = all_ties(letters)
    return [(letters, some) for size in range(len(ties) + 1) for some in combinations(ties, size)]


ALL_LETTERS = ("a", "z", "az", "mn", "abc", "bqx", "abcd", "cfyz", "abcde", "amnyz")
GROUNDS = [ground for letters in ALL_LETTERS for ground in grounds_of(letters)]


def nested(core, depth, shells):
    """The core within so many lists and tuples, by turns those that shells names."""
    for step in range(depth):
        core = [core] if shells[step % len(shells)] == "list" else (core,)
    return core


CORES = (0, 1, -1, 2, 5, 12, 10 ** 40, True, False, None)
SHELLS = (("list",), ("tuple",), ("list", "tuple"))


def things_that_are_no_text():
    things = list(CORES)
    things += [[], (), [[]], ((),), [()], ([],), ((), ()), [[], []], ("", ()), ["", ()], ("", ""), (0, 0), (True, False)]
    things += [["a"], ("a",), ["a", "b"], ("a", "b"), ["ab"], [None, 1, "a", True], (None, 1, "a", True), (None, ())]
    things += [["ab", ()], ["ab", ("ab",)], ("ab", ["ab"]), ("ab", []), (["a", "b"], ()), (("a", "b"), ())]
    for core in CORES + ("", "a", "ab", "abc"):
        for shells in SHELLS:
            for depth in (1, 2, 3, 30, 33):
                things.append(nested(core, depth, shells))
                # A list innermost, so that no ground comes of it.
                things.append(("ab", nested(core, depth, ("list",) + shells)))
                things.append((nested(core, depth, shells), ()))
    return things


NO_TEXTS = things_that_are_no_text()


def few_grounds():
    """Grounds of one to five letters: with no ties, with some and with all."""
    found = [(letters, ()) for letters in ("a", "q", "ab", "mz", "abc", "abcd", "abcde")]
    found += [(letters, all_ties(letters)) for letters in ("ab", "mz", "abc", "abcd", "abcde")]
    found += [("abc", ("ab",)), ("abc", ("ac",)), ("abc", ("bc",)), ("bqx", ("bq", "qx")), ("abc", ("ab", "ac"))]
    found += [("abcd", ("ab", "cd")), ("abcd", ("ab", "bc", "cd")), ("abcd", ("ac", "ad", "bd")), ("cfyz", ("cz",))]
    found += [("abcd", ("ab", "ad", "bc", "cd")), ("abcd", ("ab", "ac", "bc")), ("abcd", ("ad", "bd", "cd"))]
    found += [("abcde", ("ab", "bc", "cd", "de")), ("abcde", ("ab", "ae", "bc", "cd", "de")), ("abcde", ("ad", "ce"))]
    found += [("amnyz", ("az", "mn", "my", "ny")), ("abcde", ("ae", "be", "ce", "de")), ("abcde", ("bd",))]
    return found


FEW_GROUNDS = few_grounds()
