"""Whether a thing is a ground, or a word of a ground."""

ALPHABET = "abcdefghijklmnopqrstuvwxyz"
MOST_LETTERS = 5
LONGEST_WORD = 12


def is_ground(thing):
    if not isinstance(thing, tuple) or len(thing) != 2:
        return False
    return are_letters(thing[0]) and are_ties(thing[1], thing[0])


def is_word(thing, ground):
    return isinstance(thing, str) and len(thing) <= LONGEST_WORD and all_within(thing, ground[0])


def are_letters(thing):
    if not isinstance(thing, str) or thing == "" or len(thing) > MOST_LETTERS:
        return False
    return all_within(thing, ALPHABET) and rises(thing)


def are_ties(thing, letters):
    if not isinstance(thing, tuple):
        return False
    # Whether they rise is asked last: only texts can be compared with one another.
    return all([is_tie(tie, letters) for tie in thing]) and rises(thing)


def is_tie(thing, letters):
    if not isinstance(thing, str) or len(thing) != 2:
        return False
    return all_within(thing, letters) and rises(thing)


def all_within(text, letters):
    return all([letter in letters for letter in text])


# Each greater than the one ahead, so that none can stand twice.
def rises(row):
    return all([row[k] < row[k + 1] for k in range(len(row) - 1)])
