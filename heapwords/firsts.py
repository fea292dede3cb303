"""The letters that can come to a word's beginning by changes."""

from heapwords.tied import any_tied


# A list, not a text: a letter is sought in it as a whole, never as a piece of a text.
def firsts(ground, word):
    return [letter for letter in sorted(set(word)) if is_first(ground, word, letter)]


# Only where a letter stands first can it be: each one behind is held back by this one, for it is tied to itself.
def is_first(ground, word, letter):
    return not any_tied(ground, word[:word.find(letter)], letter)


def without(word, letter):
    return word.replace(letter, "", 1)
