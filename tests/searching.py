"""What the document's words say of heaps, found by search: nothing here is taken from the program."""

from functools import lru_cache
from itertools import product


def tied(ground, one, other):
    return one == other or "".join(sorted(one + other)) in ground[1]


def changed_once(ground, word):
    """All words that come of the word by one change."""
    found = []
    for k in range(len(word) - 1):
        if not tied(ground, word[k], word[k + 1]):
            found.append(word[:k] + word[k + 1] + word[k] + word[k + 2:])
    return found


@lru_cache(maxsize=None)
def heap_of(ground, word):
    """All words that come of the word by changes, rising."""
    found = {word}
    edge = [word]
    while edge:
        edge = sorted({other for one in edge for other in changed_once(ground, one)} - found)
        found.update(edge)
    return tuple(sorted(found))


def least(ground, word):
    return heap_of(ground, word)[0]


def words(letters, length):
    return ["".join(row) for row in product(letters, repeat=length)]


def words_to(letters, most):
    return [word for length in range(most + 1) for word in words(letters, length)]


class Steps:
    """Numbers that look mixed and are the same on each run."""

    def __init__(self, start):
        self.state = start * 7919 + 1

    def below(self, bound):
        self.state = (self.state * 6364136223846793005 + 1442695040888963407) % 2 ** 64
        return (self.state >> 33) % bound

    def word(self, letters, length):
        return "".join(letters[self.below(len(letters))] for k in range(length))

    def mixed(self, ground, word):
        """A word that comes of the word by many changes."""
        for k in range(6 * len(word)):
            others = changed_once(ground, word)
            if others:
                word = others[self.below(len(others))]
        return word


def held_back(ground, word):
    """For each place of the word the places ahead of it whose letters are tied to its letter, as a sum of bits."""
    return [sum(1 << k for k in range(n) if tied(ground, word[k], word[n])) for n in range(len(word))]


def ways_to_places(ground, word):
    """Each choice of places that holds with a place all those that hold it back, and the ways to come to it."""
    behind = held_back(ground, word)
    found = {0: 1}
    edge = {0: 1}
    while edge:
        further = {}
        for places, ways in edge.items():
            for n in range(len(word)):
                if not places >> n & 1 and behind[n] & ~places == 0:
                    further[places | 1 << n] = further.get(places | 1 << n, 0) + ways
        found.update(further)
        edge = further
    return found


def left_of_each(ground, word):
    """What is left of each letter and of each tied pair: it tells the heap."""
    return tuple("".join(sign for sign in word if sign in part) for part in tuple(ground[0]) + ground[1])


def beginnings(ground, word):
    """All beginnings of the word's heap: a word of each, by what is left of each letter and of each tied pair."""
    found = {}
    for places in ways_to_places(ground, word):
        one = "".join(word[n] for n in range(len(word)) if places >> n & 1)
        found[left_of_each(ground, one)] = one
    return found


def is_least(ground, word):
    """Whether no letter could come ahead of a greater one by passing all that stands from there to it."""
    for k in range(len(word)):
        for n in range(k + 1, len(word)):
            if word[n] < word[k] and not any(tied(ground, sign, word[n]) for sign in word[k:n]):
                return False
    return True
