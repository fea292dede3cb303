"""The plain word of a heap, its layers, and whether two words are the same heap."""

from heapwords.firsts import firsts, without


# The words of a heap are equally long, so the least begins with the least letter that any begins with.
def plain(ground, word):
    done = ""
    rest = word
    while rest != "":
        letter = firsts(ground, rest)[0]
        done += letter
        rest = without(rest, letter)
    return done


def alike(ground, one, other):
    return plain(ground, one) == plain(ground, other)


# A letter that is not first lies on one that is tied to it, so each layer is all that is first, taken off at once.
def layers(ground, word):
    found = []
    rest = word
    while rest != "":
        layer = firsts(ground, rest)
        found.append("".join(layer))
        for letter in layer:
            rest = without(rest, letter)
    return tuple(found)
