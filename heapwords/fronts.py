"""The front of a heap, and what is left of a heap when a beginning is taken off."""

from heapwords.errors import NoLetter
from heapwords.firsts import firsts, without
from heapwords.layers import plain


def front(ground, word):
    return "".join(firsts(ground, word))


def taken(ground, word, letter):
    return plain(ground, take(ground, word, letter))


def left(ground, one, word):
    rest = word
    for letter in one:
        rest = take(ground, rest, letter)
    return plain(ground, rest)


def begins(ground, one, word):
    try:
        left(ground, one, word)
    except NoLetter:
        return False
    return True


def take(ground, word, letter):
    if letter not in firsts(ground, word):
        raise NoLetter(f"{letter!r} is not in the front of {word!r}")
    return without(word, letter)
