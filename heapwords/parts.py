"""The greatest common beginning of two heaps, and the least heap that goes on from both."""

from heapwords.errors import NoLetter
from heapwords.firsts import firsts, without
from heapwords.fronts import left
from heapwords.layers import plain
from heapwords.tied import any_tied


# The front of the greatest common beginning is what both fronts share. As the least letter of it is taken each time,
# the plain word comes of it straight away.
def common(ground, one, other):
    done = ""
    shared = firsts_of_both(ground, one, other)
    while shared != []:
        letter = shared[0]
        done += letter
        one = without(one, letter)
        other = without(other, letter)
        shared = firsts_of_both(ground, one, other)
    return done


# Behind the greatest common beginning the two go on without a shared letter at the front: a heap can hold both rests
# only if each letter of one rest may pass each letter of the other.
def both(ground, one, other):
    shared = common(ground, one, other)
    rest = left(ground, shared, one)
    other_rest = left(ground, shared, other)
    if any_tied(ground, rest, other_rest):
        raise NoLetter(f"no heap goes on from both {one!r} and {other!r}")
    return plain(ground, one + other_rest)


def firsts_of_both(ground, one, other):
    others = firsts(ground, other)
    return [letter for letter in firsts(ground, one) if letter in others]
